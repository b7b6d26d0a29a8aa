import Derived.Test.YtjabhnhejbhgjaaGreatDoorMany6
import Derived.Deep.RegionWith
import Derived.Deep.RegionHeld3
import Derived.Deep.DrawnRows
import Derived.Deep.OwnRows
set_option maxRecDepth 100000
set_option maxHeartbeats 8000000
namespace Go.Proofs.YtjabhnhejbhgjaaGreatDoor
open Go.RowKit
def addUp(s l:List Gf.F)(f:Gf.F):Nat->List Gf.F
 | 0=>s
 | k+1=>(addUp s l f k).set k (Gf.add (at_ (addUp s l f k) k) (Gf.mul f (at_ l k)))
theorem addUp_length(s l:List Gf.F)(f:Gf.F)(k:Nat):(addUp s l f k).length=s.length:=by
 induction k with
 | zero=>rfl
 | succ k ih=>simp[addUp,ih]
theorem addUp_at(s l:List Gf.F)(f:Gf.F)(k:Nat)(hk:k<=s.length):∀ i,at_ (addUp s l f k) i=if i<k then Gf.add (at_ s i) (Gf.mul f (at_ l i)) else at_ s i:=by
 induction k with
 | zero=>intro i;simp[addUp]
 | succ k ih=>
  intro i;have ih':=ih (by omega);simp only[addUp];rw[at_];by_cases e:i=k
  ·subst e
   rw[List.getD_eq_getElem?_getD,List.getElem?_set_self (by rw[addUp_length];omega),if_pos (by omega)];simp only[Option.getD_some];rw[ih' i,if_neg (by omega)]
  ·rw[List.getD_eq_getElem?_getD,List.getElem?_set_ne (Ne.symm e),<- List.getD_eq_getElem?_getD]
   rw[show(addUp s l f k).getD i 0=at_ (addUp s l f k) i from rfl,ih' i];by_cases h:i<k
   ·rw[if_pos h,if_pos (by omega)]
   ·rw[if_neg h,if_neg (by omega)]
attribute [local go_sem ↓] Go.wp_at_zero Go.wp_at_succ
theorem addTimes_any(g b o c cg m:Nat)(s l:List Gf.F)(f:Gf.F)(w:World)(hs:s.length=m)(hll:l.length=m)(hm:m<=281474976710656)(hne:b≠g)(hG:Blk w g s)(hB:Bs w b o l):
 Calls Tryz.prog 125 #[.slice (some ⟨g,0,none⟩) m cg,.slice (some ⟨b,o,none⟩) m c,.int .u8 (f.toNat:Int)] w fun e w'=>
  e=.returned (.tuple #[])/\Blk w' g (addUp s l f m)/\OnlyAt g w w':=by
 have HS:Hid (s.length=m):=hs;have HL:Hid (l.length=m):=hll;clear hs hll;go_enter Tryz.func125,Tryz.ntmps125;go_wp2_with fail
 go_loopw[10] (fun t wr=>∃ k:Nat,k<=m/\t=.int .i64 k/\Blk wr g (addUp s l f k)/\OnlyAt g w wr) (fun t _=>m - (intOf t).toNat)
 case atStart=>exact⟨0,by omega,rfl,hG,OnlyAt.refl _ _⟩
 case round=>
  obtain⟨k,hk,rfl,hGr,hO⟩:=hrel;by_cases hlt:k<m
  ·have hcb:wr.cell? ⟨b,o+k,none⟩=some (.int .u8 ((at_ l k).toNat:Int)):=by rw[hO.cell (p:=⟨b,o+k,none⟩) hne];exact hB k (by rw[HL.out];exact hlt)
   have hcg:wr.cell? ⟨g,k,none⟩=some (.int .u8 ((at_ (addUp s l f k) k).toNat:Int)):=by have:=hGr.bs k (by rw[addUp_length,HS.out];exact hlt);simpa using this
   have hfg:=hGr.frozen k;have hx:=Gf.addF (at_ (addUp s l f k) k) (Gf.mul f (at_ l k));have hks:(k:Int)<(m:Int):=by omega
   go_wp2_with fail
   go_region_with (go_at_call 140;refine(fieldMul_any _ _ _).mono ?_;rintro e w' ⟨rfl,rfl⟩)
   all_goals
    go_wp2
    go_roundw
    case rel=>exact⟨k+1,by omega,by go_num,(hGr.set k _).drew,(hO.setCell k _).drew⟩
    case measure=>simp[intOf];omega
  ·obtain rfl:k=m:=by omega
   go_wp2
   go_end0
   exact⟨rfl,hGr,hO⟩
def symUp(X:List Gf.F)(rs:List Row)(p:Gf.F)(m:Nat):Nat->List Gf.F
 | 0=>List.replicate m 0
 | k+1=>addUp (symUp X rs p m k) (rat rs k).l (Gf.wt (at_ X) X.length k p) m
theorem symUp_length(X:List Gf.F)(rs:List Row)(p:Gf.F)(m k:Nat):(symUp X rs p m k).length=m:=by
 induction k with
 | zero=>simp[symUp]
 | succ k ih=>simp[symUp,addUp_length,ih]
theorem symUp_at(X:List Gf.F)(rs:List Row)(p:Gf.F)(m i:Nat)(hi:i<m)(k:Nat):at_ (symUp X rs p m k) i=Gf.sum (fun j=>Gf.mul (Gf.wt (at_ X) X.length j p) (at_ (rat rs j).l i)) k:=by
 induction k with
 | zero=>simp[symUp,at_,Gf.sum,hi]
 | succ k ih=>
  simp only[symUp,Gf.sum];rw[addUp_at _ _ _ _ (by rw[symUp_length];exact Nat.le_refl _),if_pos hi,ih];rfl
def symOf(X:List Gf.F)(rs:List Row)(p:Gf.F)(m:Nat):List Gf.F:=symUp X rs p m X.length
theorem symOf_at(X:List Gf.F)(rs:List Row)(p:Gf.F)(m i:Nat)(hi:i<m):at_ (symOf X rs p m) i=Gf.lag (at_ X) (fun j=>at_ (rat rs j).l i) X.length p:=symUp_at X rs p m i hi _
theorem symOf_length(X:List Gf.F)(rs:List Row)(p:Gf.F)(m:Nat):(symOf X rs p m).length=m:=symUp_length ..
theorem Tryz.info_u8:(Tryz.prog.info? 5).map (fun i=>(i.zero,i.size,i.bytes))=some (some (.int .u8 0),1,1):=by kernel_rfl
theorem blockSymbol_any(pb po pc sb so sc m:Nat)(X:List Gf.F)(rs:List Row)(p:Gf.F)(w:World)(hX:X.length<=1000)(hn:0<rs.length)(hXr:X.length=rs.length)(hm:m<=281474976710656)
 (hP:Bs w pb po X) (hR:Rs w sb so rs) (hlen:∀ i,i<rs.length->(rat rs i).l.length=m) (hlow:∀ i,i<rs.length->(rat rs i).b<w.heap.size):
 Calls Tryz.prog 101 #[.slice (some ⟨pb,po,none⟩) X.length pc,.slice (some ⟨sb,so,none⟩) rs.length sc,.int .u8 (p.toNat:Int)] w fun e w'=>
  e=.returned (.slice (some ⟨w.heap.size,0,none⟩) m m)/\Blk w' w.heap.size (symOf X rs p m)/\Below w.heap.size w w'/\w'.heap.size=w.heap.size+1:=by
 have hmk:=fun W=>run_make_row' (P:=Tryz.prog) 33 5 (.int .u8 0) 1 Tryz.underlying33 Tryz.info_u8 rfl .i64 .i64 m (by omega) (by omega) W
 have hr0:w.cell? ⟨sb,so,none⟩=some (.slice (some ⟨(rat rs 0).b,(rat rs 0).o,none⟩) m (rat rs 0).c):=by have:=(hR 0 hn).1;rw[Row.val,hlen 0 hn]at this;exact this
 have HX:Hid (X.length=rs.length):=hXr;clear hXr;have hrl:rs.length<=1000:=by have:=HX.out;omega
 have hpl:=hP.lt (by have:=HX.out;omega);have hsl:=hR.lt hn;go_enter Tryz.func101,Tryz.ntmps101;go_wp2_with fail;generalize hW:w.alloc (Obj.cells _ _)=W;have hb0:Below w.heap.size w W:=by rw[<- hW];exact(Below.refl _ _).alloc (Nat.le_refl _) _
 have hz0:W.heap.size=w.heap.size+1:=by rw[<- hW];simp
 have hG0:Blk W w.heap.size (symUp X rs p m 0):=by rw[<- hW];exact Blk.made m
 clear hW;have HZ:Hid (W.heap.size=w.heap.size+1):=hz0;clear hz0 hmk
 go_loopw[17] (fun t wr=>∃ k:Nat,k<=rs.length/\t=.int .i64 k/\Blk wr w.heap.size (symUp X rs p m k)/\Below w.heap.size w wr/\Hid (wr.heap.size=w.heap.size+1)) (fun t _=>rs.length - (intOf t).toNat)
 case atStart=>exact⟨0,by omega,rfl,hG0,hb0,HZ⟩
 case round=>
  obtain⟨k,hk,rfl,hGr,hbr,hzr⟩:=hrel;by_cases hlt:k<rs.length
  ·have hck:wr.cell? ⟨sb,so+k,none⟩=some (.slice (some ⟨(rat rs k).b,(rat rs k).o,none⟩) m (rat rs k).c):=by
    rw[hbr.cell (p:=⟨sb,so+k,none⟩) hsl];have:=(hR k hlt).1;rw[Row.val,hlen k hlt]at this;exact this
   have hPr:=hP.below hbr hpl;have hBr:=(hR k hlt).2.below hbr (hlow k hlt);have hlk:=hlow k hlt;have hnk:(rat rs k).b≠w.heap.size:=Nat.ne_of_lt hlk;have hlenk:=hlen k hlt;have HLK:Hid ((rat rs k).l.length=m):=hlenk;clear hlenk;go_wp2_with fail;refine(weight_any pb po pc X k p _ hX (by rw[HX.out];exact hlt) hPr).mono ?_;rintro e w2 ⟨rfl,rfl⟩;go_wp2_with fail;refine(addTimes_any w.heap.size (rat rs k).b (rat rs k).o (rat rs k).c m m (symUp X rs p m k) (rat rs k).l (Gf.wt (at_ X) X.length k p) _ (symUp_length ..) HLK.out hm hnk hGr hBr).mono ?_;rintro e w3 ⟨rfl,hG3,hO3⟩;go_wp2_with fail
   go_roundw
   case rel=>exact⟨k+1,by omega,by go_num,hG3,hbr.trans hO3.below,hO3.size.trans hzr.out⟩
   case measure=>simp[intOf];omega
  ·obtain rfl:k=rs.length:=by omega
   go_wp2_with fail;go_ret;exact⟨rfl,by unfold symOf;rw[HX.out];exact hGr,hbr,hzr.out⟩
def frontUp(n:Nat):Nat->List Gf.F
 | 0=>List.replicate n 0
 | k+1=>(frontUp n k).set k (BitVec.ofNat 8 k)
theorem frontUp_length(n k:Nat):(frontUp n k).length=n:=by
 induction k with
 | zero=>simp[frontUp]
 | succ k ih=>simp[frontUp,ih]
theorem frontUp_at(n k i:Nat)(hk:k<=n)(hi:i<k):at_ (frontUp n k) i=BitVec.ofNat 8 i:=by
 induction k with
 | zero=>omega
 | succ k ih=>
  simp only[frontUp,at_];by_cases e:i=k
  ·subst e;rw[List.getD_eq_getElem?_getD,List.getElem?_set_self (by rw[frontUp_length];omega)];rfl
  ·rw[List.getD_eq_getElem?_getD,List.getElem?_set_ne (Ne.symm e),<- List.getD_eq_getElem?_getD];exact ih (by omega) (by omega)
def front(n:Nat):List Gf.F:=frontUp n n
theorem front_length(n:Nat):(front n).length=n:=frontUp_length n n
theorem front_at(n i:Nat)(hi:i<n):at_ (front n) i=BitVec.ofNat 8 i:=frontUp_at n n i (Nat.le_refl _) hi
theorem sourcePlaces_any(n:Nat)(w:World)(hn:n<=8):
 Calls Tryz.prog 102 #[.int .i64 n] w fun e w'=>
  e=.returned (.slice (some ⟨w.heap.size,0,none⟩) n n)/\Blk w' w.heap.size (front n)/\Below w.heap.size w w'/\w'.heap.size=w.heap.size+1:=by
 have hmk:=fun W=>run_make_row' (P:=Tryz.prog) 33 5 (.int .u8 0) 1 Tryz.underlying33 Tryz.info_u8 rfl .i64 .i64 n (by omega) (by omega) W
 go_enter Tryz.func102,Tryz.ntmps102;go_wp2_with fail;generalize hW:w.alloc (Obj.cells _ _)=W;have hb0:Below w.heap.size w W:=by rw[<- hW];exact(Below.refl _ _).alloc (Nat.le_refl _) _
 have hz0:Hid (W.heap.size=w.heap.size+1):=by rw[<- hW];show _=_;simp
 have hG0:Blk W w.heap.size (frontUp n 0):=by rw[<- hW];exact Blk.made n
 clear hW hmk
 go_loopw[9] (fun t wr=>∃ k:Nat,k<=n/\t=.int .i64 k/\Blk wr w.heap.size (frontUp n k)/\Below w.heap.size w wr/\Hid (wr.heap.size=w.heap.size+1)) (fun t _=>n - (intOf t).toNat)
 case atStart=>exact⟨0,by omega,rfl,hG0,hb0,hz0⟩
 case round=>
  obtain⟨k,hk,rfl,hGr,hbr,hzr⟩:=hrel;by_cases hlt:k<n
  ·have hcg:wr.cell? ⟨w.heap.size,k,none⟩=some (.int .u8 ((at_ (frontUp n k) k).toNat:Int)):=by have:=hGr.bs k (by rw[frontUp_length];exact hlt);simpa using this
   have hfg:=hGr.frozen k;go_wp2_with fail
   go_roundw
   case rel=>exact⟨k+1,by omega,by go_num,hGr.setNat k k (by omega),hbr.setCell (p:=⟨w.heap.size,k,none⟩) (Nat.le_refl _) _,by show _=_;rw[<- hzr.out];simp⟩
   case measure=>simp[intOf];omega
  ·obtain rfl:k=n:=by omega
   go_wp2_with fail;go_ret;exact⟨rfl,hGr,hbr,hzr.out⟩
def byteOf(z:Int):Gf.F:=BitVec.ofNat 8 z.toNat
def hasB(l:List Int)(n:Nat)(v:Int):Bool:=(List.range n).any fun i=>zat l i==v
theorem hasB_iff(l:List Int)(n:Nat)(v:Int):hasB l n v=true↔∃ i,i<n/\zat l i=v:=by
 simp[hasB,List.any_eq_true]
end Go.Proofs.YtjabhnhejbhgjaaGreatDoor
