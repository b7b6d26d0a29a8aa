import Derived.Test.YtjabhnhejbhgjaaGreatDoorMany11
import Derived.Test.YtjabhnhejbhgjaaGreatDoorMany6
import Derived.Deep.RegionHeld3
import Derived.Deep.DrawnRows
import Derived.Deep.DeepCutAuto
import Derived.StillTailTactics
import Derived.Test.YtjabhnhejbhgjaaGreatDoorMany8
set_option maxRecDepth 100000
set_option maxHeartbeats 8000000
namespace Go.Proofs.YtjabhnhejbhgjaaGreatDoor
open Go.RowKit
theorem power_z(x:Gf.F)(z:Int)(n:Nat)(w:World)(hz:z=(x.toNat:Int))(hn:n<=1000):
 Calls Tryz.prog 148 #[.int .u8 z,.int .i64 n] w fun e w'=>e=.returned (.int .u8 ((Gf.pow x n).toNat:Int))/\w'=w:=by
 subst hz;exact power_any x n w hn
theorem wp_region_tail{P:Program}{id:Nat}{Q:Exit->Act->World->Prop}{a:Act}{w:World}{l:List Oper}(n:Nat)(hm:P.follows .mixedOrders=true)(hB:Region.lexTailB .any l.toArray n=true)
 (h:wpStill P l.toArray w.drew (fun a'=>wpList P l.toArray Q (l.drop n) a' w.drew) (l.take n) a):(Code.region id l.toArray true).wp P Q a w:=wp_region_still_tail n hm hB h
def powL(x:Gf.F)(k:Nat):List Gf.F:=(List.range k).map (Gf.pow x)
theorem powL_succ(x:Gf.F)(k:Nat):powL x (k+1)=powL x k++[Gf.pow x k]:=by simp[powL,List.range_succ]
theorem powL_length(x:Gf.F)(k:Nat):(powL x k).length=k:=by simp[powL]
def eqRow(l:List Int)(ys:List Gf.F)(n t:Nat):List Gf.F:=powL (byteOf (zat l t)) n++[at_ ys t]
theorem eqRow_at(l:List Int)(ys:List Gf.F)(n t j:Nat)(hj:j<=n):at_ (eqRow l ys n t) j=if j<n then Gf.pow (byteOf (zat l t)) j else at_ ys t:=by
 unfold eqRow;rw[at_snoc,powL_length];by_cases h:j<n
 ·rw[if_pos h,if_pos h];simp[at_,powL,List.getD,h]
 ·rw[if_neg h,if_pos (by omega),if_neg h]
theorem Tryz.u8_parts:∃ i,Tryz.prog.info? 5=some i/\i.zero=some (.int .u8 0)/\i.size=1/\i.bytes=1:=by
 obtain⟨i,hi,h⟩:=Option.map_eq_some_iff.1 Tryz.info_u8;simp only[Prod.mk.injEq]at h;exact⟨i,hi,h.1,h.2.1,h.2.2⟩
theorem Tryz.bytes_parts:∃ i,Tryz.prog.info? 33=some i/\i.zero=some (.slice none 0 0)/\i.size=1/\i.bytes=24:=by
 obtain⟨i,hi,h⟩:=Option.map_eq_some_iff.1 Tryz.info_bytes;simp only[Prod.mk.injEq]at h;exact⟨i,hi,h.1,h.2.1,h.2.2⟩
theorem poly_any(zb zo zc vb vo vc n:Nat)(l:List Int)(ys:List Gf.F)(w:World)(hl:l.length=n)(hy:ys.length=n)(hn:0<n)(hn8:n<=8)(hp:placesB l n=true)(hZ:Zs w zb zo l)(hY:Bs w vb vo ys):
 Calls Tryz.prog 138 #[.slice (some ⟨zb,zo,none⟩) n zc,.slice (some ⟨vb,vo,none⟩) n vc] w fun e w'=>
  ∃ g c cf,e=.returned (.slice (some ⟨g,0,none⟩) n c)/\w'.ownsRow w.heap.size 5 1 (.slice (some ⟨g,0,none⟩) n c) n (encL cf)/\cf.length=n/\(∀ p,Gf.ev cf p=Gf.lag (fun i=>byteOf (zat l i)) (at_ ys) n p)/\Below w.heap.size w w':=by
 have hzl:=hZ.lt (by omega);have hvl:=hY.lt (by omega);have HL:Hid (l.length=n):=hl;have HY:Hid (ys.length=n):=hy;have HP:Hid (placesB l n=true):=hp;clear hl hy hp;obtain⟨iu,hiu,hu0,hu1,hu2⟩:=Tryz.u8_parts;obtain⟨ib,hib,hb0,hb1,hb2⟩:=Tryz.bytes_parts;go_enter Tryz.func138,Tryz.ntmps138;go_wp2_with fail
 go_loopw[6,7] (fun v t wr=>∃(i:Nat) (rs:List Row),i<=n/\t=.int .i64 i/\Mat wr w.heap.size (n+1) v i rs/\Hid (∀ t,t<i->(rat rs t).l=eqRow l ys n t)/\Below w.heap.size w wr) (fun _ t _=>n - (intOf t).toNat)
 case atStart=>exact⟨0,[],by omega,rfl,Mat.nil ..,fun t ht=>by omega,Below.refl _ _⟩
 case round=>
  obtain⟨i,rs,hi,rfl,hM,hR,hbr⟩:=hrel;by_cases hlt:i<n
  ·obtain⟨hz0,hz1⟩:=placesB_range HP.out i hlt
   obtain⟨wA,rfl⟩:∃ x,x=wr:=⟨wr,rfl⟩;go_wp2_with fail
   go_loopw[8,9] (fun v t wr=>∃ k:Nat,k<=n/\t=.int .i64 k/\Gro wr w.heap.size (n+1) u6 i rs v k (powL (byteOf (zat l i)) k)/\Below w.heap.size w wr) (fun _ t _=>n - (intOf t).toNat)
   case atStart=>exact⟨0,by omega,rfl,Gro.nil hM,hbr⟩
   case round=>
    obtain⟨k,hk,rfl,hG,hb3⟩:=hrel;have hs3:=hb3.size;by_cases hlt2:k<n
    ·have hci:wr.cell? ⟨zb,zo+i,none⟩=some (.int .i64 (zat l i)):=hZ.below hb3 hzl i (by rw[HL.out];exact hlt)
     have hil:(i:Int)<(n:Int):=by omega
     go_wp2_with fail;refine(power_z (byteOf (zat l i)) _ k _ (byteOf_toNat ⟨hz0,hz1⟩) (by omega)).mono ?_;rintro e w' ⟨rfl,rfl⟩;go_wp2_with (at_builtin;refine wpList_append_lies _ rfl _ _ _ rfl w.heap.size 5 iu (.int .u8 0) 1 1 Tryz.underlying33 hiu hu0 hu1 hu2 rfl (by omega) u8 k (encL (powL (byteOf (zat l i)) k)) rfl (hG.own.alloc _) ⟨w'.heap.size,0,none⟩ 1 1 [.int .u8 ((Gf.pow (byteOf (zat l i)) k).toNat:Int)] rfl rfl ?c1 ?c2 (by omega) ?c3 (by omega) ?c4 (w'.heap.size+1) ?c5 ?_)
     case c1=>exact cell_one_new _ _ _
     case c2=>intro u hu;simp at hu;subst hu;rfl
     case c3=>unfold maxLen;omega
     case c4=>simp;omega
     case c5=>simp
     intro ga ca w6 hown6 hgr6 hlie6 hlt6;have hG6:=hG.step hown6 hgr6 hlie6;rw[<- powL_succ]at hG6;have hb6:Below w.heap.size w w6:=(hb3.alloc hs3 _).grown hgr6 (by simp;omega) (fun t ht=>(own_lt hG.own ht).1);clear hown6 hgr6 hlie6 hlt6;go_wp2_with fail
     go_roundw
     case rel=>exact⟨k+1,by omega,by go_num,hG6,hb6⟩
     case measure=>simp[intOf];omega
    ·obtain rfl:k=n:=by omega
     obtain⟨wB,rfl⟩:∃ x,x=wr:=⟨wr,rfl⟩;have hcy:wB.cell? ⟨vb,vo+i,none⟩=some (.int .u8 ((at_ ys i).toNat:Int)):=hY.below hb3 hvl i (by rw[HY.out];exact hlt);have hik:(i:Int)<(k:Int):=by omega
     have hvw:vb<wB.heap.size:=Nat.lt_of_lt_of_le hvl hs3;go_wp2_with (at_builtin;refine wpList_append_lies _ rfl _ _ _ rfl w.heap.size 5 iu (.int .u8 0) 1 1 Tryz.underlying33 hiu hu0 hu1 hu2 rfl (by omega) u8 k (encL (powL (byteOf (zat l i)) k)) rfl (hG.own.alloc _) ⟨wB.heap.size,0,none⟩ 1 1 [.int .u8 ((at_ ys i).toNat:Int)] rfl rfl ?c1 ?c2 (by omega) ?c3 (by omega) ?c4 (wB.heap.size+1) ?c5 ?_)
     case c1=>exact cell_one_new _ _ _
     case c2=>intro u hu;simp at hu;subst hu;rfl
     case c3=>unfold maxLen;omega
     case c4=>simp;omega
     case c5=>simp
     intro ga ca w6 hown6 hgr6 hlie6 hlt6;have hG6:=hG.step hown6 hgr6 hlie6;have hb6:Below w.heap.size w w6:=(hb3.alloc hs3 _).grown hgr6 (by simp;omega) (fun t ht=>(own_lt hG.own ht).1);have hs6:=hb6.size;clear hown6 hgr6 hlie6 hlt6;go_wp2_with (at_builtin;refine wpList_append_lies _ rfl _ _ _ rfl w.heap.size 33 ib (.slice none 0 0) 1 24 Tryz.underlying40 hib hb0 hb1 hb2 rfl (by omega) u6 i (rs.map Row.val) rfl (hG6.mat.own.alloc _) ⟨w6.heap.size,0,none⟩ 1 1 [.slice (some ⟨ga,0,none⟩) (k+1) ca] rfl rfl ?c1 ?c2 (by omega) ?c3 (by omega) ?c4 (w6.heap.size+1) ?c5 ?_)
     case c1=>exact cell_one_new _ _ _
     case c2=>intro u hu;simp at hu;subst hu;rfl
     case c3=>unfold maxLen;omega
     case c4=>simp;omega
     case c5=>simp
     intro gl cl w7 hown7 hgr7 hlie7 hlt7;have hM7:=hG6.row hown7 hgr7 hlie7;have hb7:Below w.heap.size w w7:=(hb6.alloc hs6 _).grown hgr7 (by simp;omega) (fun t ht=>(own_lt hG6.mat.own ht).1)
     have hR7:Hid (∀ t,t<i+1->(rat (rs++[⟨ga,0,ca,powL (byteOf (zat l i)) k++[at_ ys i]⟩]) t).l=eqRow l ys k t):=by
      intro t ht;by_cases e:t=i
      ·subst e
       rw[show rat (rs++[(⟨ga,0,ca,powL (byteOf (zat l t)) k++[at_ ys t]⟩:Row)]) t=⟨ga,0,ca,powL (byteOf (zat l t)) k++[at_ ys t]⟩ by rw[<- hM.len];exact rat_eq];rfl
      ·rw[rat_lt (by rw[hM.len];omega)]
       exact hR.out t (by omega)
     clear hown7 hgr7 hlie7 hlt7;go_wp2_with fail
     go_roundw
     case rel=>exact⟨i+1,_,by omega,by go_num,hM7,hR7,hb7⟩
     case measure=>simp[intOf];omega
  ·obtain rfl:i=n:=by omega
   obtain⟨a6,c6,rfl,hf6⟩:=own_form hM.own;obtain⟨g6,rfl,hc6,hB6,hg6,_⟩:=hf6 hn;obtain⟨wA,rfl⟩:∃ x,x=wr:=⟨wr,rfl⟩;clear hib hb0 hb1 hb2;have hXa:Gf.Apart (fun i=>byteOf (zat l i)) i:=fun a b ha hb e=>placesB_apart HP.out a b ha hb (byteOf_inj (placesB_range HP.out a ha) (placesB_range HP.out b hb) e)
   obtain⟨cf,hcf,hev,hsol⟩:=Gf.solves_start (Y:=at_ ys) (m:=mx rs) hn8 hXa (fun a ha j hj=>by show at_ (rat rs a).l j=_;rw[hR.out a ha,eqRow_at l ys i a j hj]);obtain⟨N,rfl⟩:∃ x,x=i:=⟨i,rfl⟩;clear hXa hR hlt;go_wp2_with fail
   go_loopw[11] (fun t wr=>∃(k:Nat) (rs:List Row),k<=N/\t=.int .i64 k/\Mat wr w.heap.size (N+1) (.slice (some ⟨g6,0,none⟩) N c6) N rs/\Gf.Solves (mx rs) N (fun j=>cf.getD j 0)/\Gf.Unit (mx rs) N k/\Below w.heap.size w wr) (fun t _=>N - (intOf t).toNat)
   case atStart=>exact⟨0,rs,by omega,rfl,hM,hsol,fun j hj=>by omega,hbr⟩
   case round=>
    obtain⟨k,rs0,hk,rfl,hM0,hS0,hU0,hb8⟩:=hrel;clear hM hsol;by_cases hlt:k<N
    ·obtain⟨p0,hp1,hp2,hp3⟩:=hS0.pivot hlt hU0
     have HP3:Hid (mx rs0 p0 k≠0):=hp3;clear hp3;have hkN:(k:Int)<(N:Int):=by omega
     obtain⟨wB,rfl⟩:∃ x,x=wr:=⟨wr,rfl⟩;go_wp2_with fail
     go_loop [12] (fun t=>∃ q:Nat,k<=q/\q<=p0/\t=.int .i64 q) (fun t=>N - (intOf t).toNat)
     case atStart=>exact⟨k,by omega,by omega,rfl⟩
     case round=>
      obtain⟨q,hq1,hq2,rfl⟩:=hrel;have hqN:(q:Int)<(N:Int):=by omega
      have hc1:=hM0.cell q (by omega);have hc2:=hM0.byte q k (by omega) (by omega);have hk1:(k:Int)<((N+1:Nat):Int):=by omega
      by_cases e:at_ (rat rs0 q).l k=0
      ·have ht:(((at_ (rat rs0 q).l k).toNat:Int)==0)=true:=by rw[e];rfl
       have hne:q≠p0:=fun h=>HP3.out (by rw[<- h];exact e)
       clear e;go_wp2_with fail
       go_round
       case rel=>exact⟨q+1,by omega,by omega,by go_num⟩
       case measure=>simp[intOf];omega
      ·have ht:(((at_ (rat rs0 q).l k).toNat:Int)==0)=false:=by
        rw[<- Bool.not_eq_true,beq_iff_eq];intro h;exact e (BitVec.eq_of_toNat_eq (by simpa using h))
       have HE:Hid (at_ (rat rs0 q).l k≠0):=e;clear e;have hc3:=hM0.cell k (by omega);have hf1:=hM0.frozenG q;have hf2:=hM0.frozenG k;obtain⟨v',hy'⟩:=cell?_setCell_some (w:=wB) (p:=⟨g6,q,none⟩) (x:=.slice (some ⟨(rat rs0 k).b,0,none⟩) (N+1) (rat rs0 k).c) (q:=⟨g6,k,none⟩) hc3;have hM1:=hM0.swap q k (by omega) (by omega);have hr1:rat (swapL rs0 q k) k=rat rs0 q:=by rw[swapL_at (by rw[hM0.len];omega) (by rw[hM0.len];omega) (by rw[hM0.len];omega),if_pos rfl]
       have hc4:=hM1.cell k (by omega);have hc5:=hM1.byte k k (by omega) (by omega);rw[hr1]at hc4 hc5;have HM1:Hid (Mat ((wB.setCell ⟨g6,q,none⟩ (.slice (some ⟨(rat rs0 k).b,0,none⟩) (N+1) (rat rs0 k).c)).setCell ⟨g6,k,none⟩ (.slice (some ⟨(rat rs0 q).b,0,none⟩) (N+1) (rat rs0 q).c)) w.heap.size (N+1) (.slice (some ⟨g6,0,none⟩) N c6) N (swapL rs0 q k)):=hM1;clear hM1 hr1;go_wp2_with fail;clear hc4 hc5 hy' hc1 hc2 hc3 hf1 hf2 ht;generalize hW:(wB.setCell _ _).setCell _ _=w2;have hM2:Mat w2 w.heap.size (N+1) (.slice (some ⟨g6,0,none⟩) N c6) N (swapL rs0 q k):=by rw[<- hW];exact HM1.out
       have hb9:Below w.heap.size w w2:=by rw[<- hW];exact(hb8.setCell (p:=⟨g6,q,none⟩) hB6 _).setCell (p:=⟨g6,k,none⟩) hB6 _
       clear hW HM1;refine(over_any _ HE.out _).mono ?_;rintro e w' ⟨rfl,rfl⟩;have E1:Hid (∀ a,a<N->∀ b,b<=N->mx (swapL rs0 q k) a b=mx rs0 (if a=k then q else if a=q then k else a) b):=fun a ha b _=>mx_swap (by rw[hM0.len];omega) (by rw[hM0.len];omega) a (by rw[hM0.len];exact ha) b
       generalize swapL rs0 q k=rs1 at hM2 E1;generalize ho:Gf.inv (at_ (rat rs0 q).l k)=o;have HO:Hid (Gf.inv (mx rs0 q k)=o):=ho;clear ho;go_wp2_with fail
       go_loopw[15] (fun t wr=>∃(j:Nat) (rs:List Row),j<=N+1/\t=.int .i64 j/\Mat wr w.heap.size (N+1) (.slice (some ⟨g6,0,none⟩) N c6) N rs/\Hid (∀ a,a<N->∀ b,b<=N->mx rs a b=if a=k/\b<j then Gf.mul (mx rs1 a b) o else mx rs1 a b)/\Below w.heap.size w wr) (fun t _=>N+1 - (intOf t).toNat)
       case atStart=>exact⟨0,rs1,by omega,rfl,hM2,fun a _ b _=>by rw[if_neg (by omega)],hb9⟩
       case round=>
        obtain⟨j,rs2,hj,rfl,hM3,E2,hb10⟩:=hrel;by_cases hjl:j<=N
        ·have hc1:=hM3.cell k (by omega)
         have hc2:=hM3.byte k j (by omega) (by omega);have hf1:=hM3.frozen k j (by omega);have hjN:(j:Int)<(N:Int)+1:=by omega
         have hM4:=hM3.store k j (by omega) (Gf.mul (at_ (rat rs2 k).l j) o)
         have E3:Hid (∀ a,a<N->∀ b,b<=N->mx (setL rs2 k ((rat rs2 k).l.set j (Gf.mul (at_ (rat rs2 k).l j) o))) a b=if a=k/\b<j+1 then Gf.mul (mx rs1 a b) o else mx rs1 a b):=by
          intro a ha b hb;rw[mx_store (by rw[hM3.len];omega) (by rw[(hM3.each k (by omega)).2.1];omega)];by_cases e:a=k/\b=j
          ·obtain⟨rfl,rfl⟩:=e
           rw[if_pos ⟨rfl,rfl⟩,if_pos ⟨rfl,by omega⟩];have:=E2.out a ha b hb;rw[if_neg (by omega)]at this;rw[show at_ (rat rs2 a).l b=mx rs2 a b from rfl,this]
          ·rw[if_neg e,E2.out a ha b hb]
           by_cases e2:a=k/\b<j
           ·rw[if_pos e2,if_pos ⟨e2.1,by omega⟩]
           ·rw[if_neg e2,if_neg (fun h=>e2 ⟨h.1,by have:=h.2;rcases Nat.lt_or_ge b j with q|q;exact q;exact absurd ⟨h.1,by omega⟩ e⟩)]
         go_wp2_with fail;have HM4:Hid (Mat (wr.setCell ⟨(rat rs2 k).b,j,none⟩ (.int .u8 ((Gf.mul (at_ (rat rs2 k).l j) o).toNat:Int))) w.heap.size (N+1) (.slice (some ⟨g6,0,none⟩) N c6) N (setL rs2 k ((rat rs2 k).l.set j (Gf.mul (at_ (rat rs2 k).l j) o)))):=hM4;have hBk:=(hM3.lt k (by omega)).1;clear hM3 hM4;refine wp_region_tail 15 (by kernel_rfl) (by kernel_rfl) ?_;simp only[List.take_succ_cons,List.take_zero,List.drop_succ_cons,List.drop_zero]
         repeat still_step
         still_call (refMul_any (at_ (rat rs2 k).l j) o _)
         repeat still_step
         refine wpStill_nil ?_;go_wp2_with fail
         go_roundw
         case rel=>exact⟨j+1,_,by omega,by go_num,HM4.out.drew,E3,(hb10.setCell (p:=⟨(rat rs2 k).b,j,none⟩) hBk _).drew⟩
         case measure=>simp[intOf];omega
        ·obtain rfl:j=N+1:=by omega
         have E4:Hid (∀ a,a<N->∀ b,b<=N->mx rs2 a b=if a=k then Gf.mul (mx rs1 k b) o else mx rs1 a b):=by
          intro a ha b hb;rw[E2.out a ha b hb];by_cases e:a=k
          ·rw[if_pos ⟨e,by omega⟩,if_pos e,e]
          ·rw[if_neg (fun h=>e h.1),if_neg e]
         obtain⟨wC,rfl⟩:∃ x,x=wr:=⟨wr,rfl⟩;clear E2 hM2 hjl;go_wp2_with fail
         go_loopw[12] (fun t wr=>∃(i:Nat) (rs:List Row),i<=N/\t=.int .i64 i/\Mat wr w.heap.size (N+1) (.slice (some ⟨g6,0,none⟩) N c6) N rs/\Hid (∀ a,a<N->∀ b,b<=N->mx rs a b=if a<i/\a≠k then mx rs2 a b ^^^ Gf.mul (mx rs2 a k) (mx rs2 k b) else mx rs2 a b)/\Below w.heap.size w wr) (fun t _=>N - (intOf t).toNat)
         case atStart=>exact⟨0,rs2,by omega,rfl,hM3,fun a _ b _=>by rw[if_neg (by omega)],hb10⟩
         case round=>
          obtain⟨i,rs3,hi2,rfl,hM5,E5,hb11⟩:=hrel;by_cases hiN:i<N
          ·have hc1:=hM5.cell i (by omega)
           have hc2:=hM5.byte i k (by omega) (by omega);have hiN2:(i:Int)<(N:Int):=by omega
           have hkN1:(k:Int)<(N:Int)+1:=by omega
           have HF:Hid (at_ (rat rs3 i).l k=mx rs2 i k):=by
            have:=E5.out i hiN k (by omega);rw[if_neg (by omega)]at this;exact this
           obtain⟨wD,rfl⟩:∃ x,x=wr:=⟨wr,rfl⟩;go_wp2_with fail;clear hc1 hc2;rw[HF.out];generalize hff:mx rs2 i k=f;have HFF:Hid (mx rs2 i k=f):=hff;clear hff HF
           go_loopw[17] (fun t wr=>∃(j:Nat) (rs:List Row),j<=N+1/\t=.int .i64 j/\Mat wr w.heap.size (N+1) (.slice (some ⟨g6,0,none⟩) N c6) N rs/\Hid (∀ a,a<N->∀ b,b<=N->mx rs a b=if(a<i∨(a=i/\b<j))/\a≠k then mx rs2 a b ^^^ Gf.mul (mx rs2 a k) (mx rs2 k b) else mx rs2 a b)/\Below w.heap.size w wr) (fun t _=>N+1 - (intOf t).toNat)
           case atStart=>exact⟨0,rs3,by omega,rfl,hM5,fun a ha b hb=>by rw[E5.out a ha b hb];congr 1;apply propext;omega,hb11⟩
           case round=>
            obtain⟨j,rs4,hj,rfl,hM6,E6,hb12⟩:=hrel;by_cases hik:i=k
            ·have hne:((i:Int) != (k:Int))=false:=by rw[hik];simp
             have E7:Hid (∀ a,a<N->∀ b,b<=N->mx rs4 a b=if a<i+1/\a≠k then mx rs2 a b ^^^ Gf.mul (mx rs2 a k) (mx rs2 k b) else mx rs2 a b):=by
              intro a ha b hb;rw[E6.out a ha b hb];congr 1;apply propext;omega
             clear hik;by_cases hjl:j<=N
             all_goals
              go_wp2_with fail
              go_roundw
              case rel=>exact⟨i+1,rs4,by omega,by go_num,hM6,E7,hb12⟩
              case measure=>simp[intOf];omega
            ·have hne:((i:Int) != (k:Int))=true:=by rw[bne_iff_ne];omega
             by_cases hjl:j<=N
             ·have hc1:=hM6.cell i (by omega)
              have hc2:=hM6.byte i j (by omega) (by omega);have hc3:=hM6.cell k (by omega);have hc4:=hM6.byte k j (by omega) (by omega);have hf1:=hM6.frozen i j (by omega);have hjN:(j:Int)<(N:Int)+1:=by omega
              have hx:=Gf.addF (at_ (rat rs4 i).l j) (Gf.mul f (at_ (rat rs4 k).l j));have hM7:=hM6.store i j (by omega) (Gf.add (at_ (rat rs4 i).l j) (Gf.mul f (at_ (rat rs4 k).l j)))
              have E7:Hid (∀ a,a<N->∀ b,b<=N->mx (setL rs4 i ((rat rs4 i).l.set j (Gf.add (at_ (rat rs4 i).l j) (Gf.mul f (at_ (rat rs4 k).l j))))) a b=if(a<i∨(a=i/\b<j+1))/\a≠k then mx rs2 a b ^^^ Gf.mul (mx rs2 a k) (mx rs2 k b) else mx rs2 a b):=by
               intro a ha b hb;rw[mx_store (by rw[hM6.len];omega) (by rw[(hM6.each i (by omega)).2.1];omega)];by_cases e:a=i/\b=j
               ·obtain⟨rfl,rfl⟩:=e
                rw[if_pos ⟨rfl,rfl⟩,if_pos ⟨.inr ⟨rfl,by omega⟩,hik⟩];have h1:=E6.out a ha b hb;rw[if_neg (by omega)]at h1;have h2:=E6.out k (by omega) b hb;rw[if_neg (by omega)]at h2;show at_ (rat rs4 a).l b ^^^ Gf.mul f (at_ (rat rs4 k).l b)=_;rw[show at_ (rat rs4 a).l b=mx rs4 a b from rfl,h1,show at_ (rat rs4 k).l b=mx rs4 k b from rfl,h2,HFF.out]
               ·rw[if_neg e,E6.out a ha b hb];congr 1;apply propext;omega
              have HM7:Hid (Mat (wr.setCell ⟨(rat rs4 i).b,j,none⟩ (.int .u8 ((Gf.add (at_ (rat rs4 i).l j) (Gf.mul f (at_ (rat rs4 k).l j))).toNat:Int))) w.heap.size (N+1) (.slice (some ⟨g6,0,none⟩) N c6) N (setL rs4 i ((rat rs4 i).l.set j (Gf.add (at_ (rat rs4 i).l j) (Gf.mul f (at_ (rat rs4 k).l j)))))):=hM7;have hBi:=(hM6.lt i (by omega)).1;clear hM6 hM7 hik;go_wp2_with fail;refine wp_region_tail 23 (by kernel_rfl) (by kernel_rfl) ?_;simp only[List.take_succ_cons,List.take_zero,List.drop_succ_cons,List.drop_zero]
              repeat still_step
              still_call (refMul_any f (at_ (rat rs4 k).l j) _)
              repeat still_step
              refine wpStill_nil ?_;go_wp2_with fail
              go_roundw
              case rel=>(repeat apply Exists.intro);exact⟨⟨j+1,_,by omega,by go_num,HM7.out.drew,E7,(hb12.setCell (p:=⟨(rat rs4 i).b,j,none⟩) hBi _).drew⟩,rfl⟩
              case measure=>simp[intOf];omega
             ·have E7:Hid (∀ a,a<N->∀ b,b<=N->mx rs4 a b=if a<i+1/\a≠k then mx rs2 a b ^^^ Gf.mul (mx rs2 a k) (mx rs2 k b) else mx rs2 a b):=by
               intro a ha b hb;rw[E6.out a ha b hb];congr 1;apply propext;omega
              clear hik;go_wp2_with fail
              go_roundw
              case rel=>exact⟨i+1,rs4,by omega,by go_num,hM6,E7,hb12⟩
              case measure=>simp[intOf];omega
          ·have E3:∀ a,a<N->∀ b,b<=N->mx rs3 a b=if a=k then mx rs2 k b else mx rs2 a b ^^^ Gf.mul (mx rs2 a k) (mx rs2 k b):=by
            intro a ha b hb;rw[E5.out a ha b hb];by_cases e:a=k
            ·rw[if_neg (by omega),if_pos e,e]
            ·rw[if_pos ⟨by omega,e⟩,if_neg e]
           have hS9:=solves_step hlt (by omega) hS0 HE.out HO.out E1.out E4.out E3;have hU9:=unit_step hlt (by omega) hq1 hU0 HE.out E1.out (by rw[<- HO.out]at E4;exact E4.out) E3;clear E3;go_wp2_with fail
           go_roundw
           case rel=>exact⟨k+1,rs3,by omega,by go_num,hM5,hS9,hU9,hb11⟩
           case measure=>simp[intOf];omega
    ·obtain rfl:k=N:=by omega
     have hD:∀ a,a<k->at_ (rat rs0 a).l k=at_ cf a:=fun a ha=>hS0.done hU0 a ha
     have HD:Hid (∀ a,a<k->at_ (rat rs0 a).l k=at_ cf a):=hD;have HC:Hid (cf.length=k):=hcf;have HEV:Hid (∀ p,Gf.ev cf p=Gf.lag (fun i=>byteOf (zat l i)) (at_ ys) k p):=hev;clear hD hcf hev hlt;obtain⟨wB,rfl⟩:∃ x,x=wr:=⟨wr,rfl⟩;go_wp2_with fail
     go_loopw[18,19] (fun v t wr=>∃ i:Nat,i<=k/\t=.int .i64 i/\Gro wr w.heap.size (k+1) (.slice (some ⟨g6,0,none⟩) k c6) k rs0 v i (cf.take i)/\Below w.heap.size w wr) (fun _ t _=>k - (intOf t).toNat)
     case atStart=>exact⟨0,by omega,rfl,Gro.nil hM0,hb8⟩
     case round=>
      obtain⟨i,hi3,rfl,hG,hb13⟩:=hrel;have hs13:=hb13.size;by_cases hlt:i<k
      ·have hc1:=hG.mat.cell i hlt
       have hc2:=hG.mat.byte i k hlt (by omega);rw[HD.out i hlt]at hc2;have hik:(i:Int)<(k:Int):=by omega
       have hkk:(k:Int)<(k:Int)+1:=by omega
       have hlt2:=(hG.mat.lt i hlt).2;go_wp2_with (at_builtin;refine wpList_append_lies _ rfl _ _ _ rfl w.heap.size 5 iu (.int .u8 0) 1 1 Tryz.underlying33 hiu hu0 hu1 hu2 rfl (by omega) u18 i (encL (cf.take i)) rfl (hG.own.alloc _) ⟨wr.heap.size,0,none⟩ 1 1 [.int .u8 ((at_ cf i).toNat:Int)] rfl rfl ?c1 ?c2 (by omega) ?c3 (by omega) ?c4 (wr.heap.size+1) ?c5 ?_)
       case c1=>exact cell_one_new _ _ _
       case c2=>intro u hu;simp at hu;subst hu;rfl
       case c3=>unfold maxLen;omega
       case c4=>simp;omega
       case c5=>simp
       intro ga ca w6 hown6 hgr6 hlie6 hlt6;have hG6:=hG.step hown6 hgr6 hlie6
       have e:cf.take i++[at_ cf i]=cf.take (i+1):=by
        have:i<cf.length:=by rw[HC.out];exact hlt
        rw[List.take_succ_eq_append_getElem this];simp[at_,List.getD,this]
       rw[e]at hG6;clear e;have hb6:Below w.heap.size w w6:=(hb13.alloc hs13 _).grown hgr6 (by simp;omega) (fun t ht=>(own_lt hG.own ht).1);clear hown6 hgr6 hlie6 hlt6;go_wp2_with fail
       go_roundw
       case rel=>exact⟨i+1,by omega,by go_num,hG6,hb6⟩
       case measure=>simp[intOf];omega
      ·obtain rfl:i=k:=by omega
       obtain⟨a18,c18,rfl,hf18⟩:=own_form hG.own;obtain⟨g18,rfl,_⟩:=hf18 hn;have hfin:=hG.own;rw[List.take_of_length_le (by rw[HC.out];exact Nat.le_refl _)]at hfin;go_wp2_with fail;go_ret;exact⟨g18,c18,cf,rfl,hfin,HC.out,HEV.out,hb13⟩
structure Raw where
 v:Value
 l:List Gf.F
def raw0:Raw:=⟨.slice none 0 0,[]⟩
def wat(rs:List Raw)(i:Nat):Raw:=rs.getD i raw0
def RawIn(w:World)(r:Raw):Prop:=∃ a c,r.v=.slice a r.l.length c/\(0<r.l.length->∃ b o,a=some ⟨b,o,none⟩/\Bs w b o r.l)
def Ws(w:World)(b o:Nat)(rs:List Raw):Prop:=∀ i,i<rs.length->w.cell? ⟨b,o+i,none⟩=some (wat rs i).v/\RawIn w (wat rs i)
theorem RawIn.below{w w':World}{r:Raw}(h:RawIn w r)(hb:Below w.heap.size w w'):RawIn w' r:=by
 obtain⟨a,c,h1,h2⟩:=h;refine⟨a,c,h1,fun hl=>?_⟩;obtain⟨b,o,h3,h4⟩:=h2 hl;exact⟨b,o,h3,h4.below hb (h4.lt hl)⟩
theorem Ws.below{w w':World}{b o:Nat}{rs:List Raw}(h:Ws w b o rs)(hb:Below w.heap.size w w'):Ws w' b o rs:=
 fun i hi=>⟨by rw[hb.cell (p:=⟨b,o+i,none⟩) (lt_of_cell (h i hi).1)];exact(h i hi).1,(h i hi).2.below hb⟩
theorem Ws.cellAt{w:World}{b o:Nat}{rs:List Raw}(h:Ws w b o rs)(i:Nat)(hi:i<rs.length):∃ a c,w.cell? ⟨b,o+i,none⟩=some (.slice a (wat rs i).l.length c)/\(0<(wat rs i).l.length->∃ b o,a=some ⟨b,o,none⟩/\Bs w b o (wat rs i).l):=by
 obtain⟨h1,a,c,h2,h3⟩:=h i hi;exact⟨a,c,by rw[h1,h2],h3⟩
def valUp(cf:List Gf.F)(x:Gf.F):Nat->Gf.F
 | 0=>0
 | k+1=>Gf.add (valUp cf x k) (Gf.mul (Gf.pow x k) (at_ cf k))
theorem valUp_ev{cf:List Gf.F}{x:Gf.F}{n:Nat}(h:cf.length=n):valUp cf x n=Gf.ev cf x:=by
 rw[Gf.ev_sum,h]
 have:∀ k,valUp cf x k=Gf.sum (fun i=>Gf.mul (Gf.pow x i) (cf.getD i 0)) k:=by
  intro k
  induction k with
  | zero=>rfl
  | succ k ih=>simp only[valUp,Gf.sum];rw[ih];rfl
 exact this n
theorem value_any(g c n:Nat)(cf:List Gf.F)(z:Int)(w:World)(hz:0<=z/\z<=255)(hn:n<=8)(hc:cf.length=n)(hB:Bs w g 0 cf):
 Calls Tryz.prog 139 #[.slice (some ⟨g,0,none⟩) n c,.int .i64 z] w fun e w'=>e=.returned (.int .u8 ((Gf.ev cf (byteOf z)).toNat:Int))/\w'=w:=by
 obtain⟨hz0,hz1⟩:=hz;have HC:Hid (cf.length=n):=hc;clear hc;go_enter Tryz.func139,Tryz.ntmps139;go_wp2_with fail
 go_loop [5,6] (fun s t=>∃ k:Nat,k<=n/\t=.int .i64 k/\s=.int .u8 ((valUp cf (byteOf z) k).toNat:Int)) (fun _ t=>n - (intOf t).toNat)
 case atStart=>exact⟨0,by omega,rfl,rfl⟩
 case round=>
  obtain⟨k,hk,rfl,rfl⟩:=hrel;by_cases hlt:k<n
  ·have hck:w.cell? ⟨g,k,none⟩=some (.int .u8 ((at_ cf k).toNat:Int)):=by have:=hB k (by rw[HC.out];exact hlt);rw[Nat.zero_add]at this;exact this
   have hx:=Gf.addF (valUp cf (byteOf z) k) (Gf.mul (at_ cf k) (Gf.pow (byteOf z) k))
   have HS:Hid (Gf.add (valUp cf (byteOf z) k) (Gf.mul (at_ cf k) (Gf.pow (byteOf z) k))=valUp cf (byteOf z) (k+1)):=by
    show _=_;simp only[valUp];rw[Gf.mul_comm (at_ cf k)]
   generalize hsx:valUp cf (byteOf z) k=sx at hx HS ⊢;clear hsx;go_wp2_with (first | (go_at_call 148;refine(power_z (byteOf z) _ k _ (byteOf_toNat ⟨hz0,hz1⟩) (by omega)).mono ?_;rintro e w' ⟨rfl,rfl⟩)|(go_at_call 150;refine(refMul_any (at_ cf k) (Gf.pow (byteOf z) k) _).mono ?_;rintro e w' ⟨rfl,rfl⟩))
   go_round
   case rel=>exact⟨k+1,by omega,by go_num,by rw[HS.out]⟩
   case measure=>simp[intOf];omega
  ·obtain rfl:k=n:=by omega
   go_wp2_with fail;go_ret;exact⟨ret_int (by rw[valUp_ev HC.out]),rfl⟩
def frontZ(n:Nat):List Int:=(List.range n).map fun(i:Nat)=>(i:Int)
theorem frontZ_length(n:Nat):(frontZ n).length=n:=by simp[frontZ]
theorem frontZ_at(n i:Nat)(hi:i<n):zat (frontZ n) i=(i:Int):=by simp[zat,frontZ,List.getD,hi]
theorem frontZ_succ(n:Nat):frontZ (n+1)=frontZ n++[(n:Int)]:=by simp[frontZ,List.range_succ]
def encZ(l:List Int):List Value:=l.map (Value.int .i64)
theorem Tryz.int_parts:∃ i,Tryz.prog.info? 3=some i/\i.zero=some (.int .i64 0)/\i.size=1/\i.bytes=8:=by
 obtain⟨i,hi,h⟩:=Option.map_eq_some_iff.1 Tryz.info_int;simp only[Prod.mk.injEq]at h;exact⟨i,hi,h.1,h.2.1,h.2.2⟩
theorem own_zs{w:World}{B g c n:Nat}{l:List Int}(h:w.ownsRow B 3 1 (.slice (some ⟨g,0,none⟩) n c) n (encZ l))(hl:l.length=n):Zs w g 0 l:=by
 intro i hi;rw[Nat.zero_add,h.cellAt i (by omega)];simp[encZ,zat,List.getD,hi]
theorem own_bs{w:World}{B g c n:Nat}{l:List Gf.F}(h:w.ownsRow B 5 1 (.slice (some ⟨g,0,none⟩) n c) n (encL l))(hl:l.length=n):Bs w g 0 l:=by
 intro i hi;rw[Nat.zero_add,h.cellAt i (by omega),encL_at hi]
theorem front_any(n:Nat)(w:World)(hn:0<n)(hn8:n<=8):
 Calls Tryz.prog 124 #[.int .i64 n] w fun e w'=>∃ g c,e=.returned (.slice (some ⟨g,0,none⟩) n c)/\w'.ownsRow w.heap.size 3 1 (.slice (some ⟨g,0,none⟩) n c) n (encZ (frontZ n))/\Below w.heap.size w w':=by
 obtain⟨iu,hiu,hu0,hu1,hu2⟩:=Tryz.int_parts;go_enter Tryz.func124,Tryz.ntmps124;go_wp2_with fail
 go_loopw[3,4] (fun v t wr=>∃ k:Nat,k<=n/\t=.int .i64 k/\wr.ownsRow w.heap.size 3 1 v k (encZ (frontZ k))/\Below w.heap.size w wr) (fun _ t _=>n - (intOf t).toNat)
 case atStart=>exact⟨0,by omega,rfl,World.ownsRow_nil ..,Below.refl _ _⟩
 case round=>
  obtain⟨k,hk,rfl,hO,hb⟩:=hrel;have hs:=hb.size;by_cases hlt:k<n
  ·go_wp2_with (at_builtin;refine wpList_append_lies _ rfl _ _ _ rfl w.heap.size 3 iu (.int .i64 0) 1 8 Tryz.underlying75 hiu hu0 hu1 hu2 rfl (by omega) u3 k (encZ (frontZ k)) rfl (hO.alloc _) ⟨wr.heap.size,0,none⟩ 1 1 [.int .i64 k] rfl rfl ?c1 ?c2 (by omega) ?c3 (by omega) ?c4 (wr.heap.size+1) ?c5 ?_)
   case c1=>exact cell_one_new _ _ _
   case c2=>intro u hu;simp at hu;subst hu;rfl
   case c3=>unfold maxLen;omega
   case c4=>simp;omega
   case c5=>simp
   intro ga ca w6 hown6 hgr6 hlie6 hlt6;have hb6:Below w.heap.size w w6:=(hb.alloc hs _).grown hgr6 (by simp;omega) (fun t ht=>(own_lt hO ht).1);have e:encZ (frontZ k)++[.int .i64 k]=encZ (frontZ (k+1)):=by rw[frontZ_succ];simp[encZ]
   rw[e]at hown6;clear e hgr6 hlie6 hlt6;go_wp2_with fail
   go_roundw
   case rel=>exact⟨k+1,by omega,by go_num,hown6,hb6⟩
   case measure=>simp[intOf];omega
  ·obtain rfl:k=n:=by omega
   obtain⟨a3,c3,rfl,hf3⟩:=own_form hO;obtain⟨g3,rfl,_⟩:=hf3 hn;go_wp2_with fail;go_ret;exact⟨g3,c3,rfl,hO,hb⟩
structure Two(w:World)(B:Nat)(vo:Value)(ko:Nat)(xs:List Gf.F)(vv:Value)(kv:Nat)(ys:List Gf.F):Prop where
 out:w.ownsRow B 5 1 vo ko (encL xs)
 col:w.ownsRow B 5 1 vv kv (encL ys)
 far:∀ g,vo.ownBlock=some g->vv.ownBlock≠some g
theorem Two.step{w w':World}{B ko kv g c:Nat}{vo vv:Value}{xs ys:List Gf.F}{o:Obj}{x:Gf.F}(h:Two w B vo ko xs vv kv ys)
 (hown:w'.ownsRow B 5 1 (.slice (some ⟨g,0,none⟩) (kv+1) c) (kv+1) (encL ys++[.int .u8 (x.toNat:Int)])) (hgr:(w.alloc o).grownBy w' vv.ownBlock) (hg:vv.ownBlock=some g∨g=w.heap.size+1):
 Two w' B vo ko xs (.slice (some ⟨g,0,none⟩) (kv+1) c) (kv+1) (ys++[x]):=by
 refine⟨own_of_block h.out (fun b hb=>?_),?_,fun b hb q=>?_⟩
 ·have hlt:=(own_lt h.out hb).2
  rw[grown_block hgr (by simp;omega) (h.far b hb),Below.heap_alloc _ _ _ hlt]
 ·have e:encL (ys++[x])=encL ys++[.int .u8 (x.toNat:Int)]:=by simp[encL]
  rw[e];exact hown
 ·have e:g=b:=by simpa [Value.ownBlock] using q
  subst e;rcases hg with e|e
  ·exact h.far g hb e
  ·have:=(own_lt h.out hb).2;omega
def colOf(rs:List Raw)(b k:Nat):List Gf.F:=(List.range k).map fun t=>at_ (wat rs t).l b
theorem colOf_succ(rs:List Raw)(b k:Nat):colOf rs b (k+1)=colOf rs b k++[at_ (wat rs k).l b]:=by simp[colOf,List.range_succ]
theorem colOf_length(rs:List Raw)(b k:Nat):(colOf rs b k).length=k:=by simp[colOf]
theorem colOf_at(rs:List Raw)(b k i:Nat)(hi:i<k):at_ (colOf rs b k) i=at_ (wat rs i).l b:=by simp[at_,colOf,List.getD,hi]
def symR(l:List Int)(rs:List Raw)(n:Nat)(p:Gf.F)(m:Nat):List Gf.F:=(List.range m).map fun b=>Gf.lag (fun i=>byteOf (zat l i)) (fun i=>at_ (wat rs i).l b) n p
theorem symR_succ(l:List Int)(rs:List Raw)(n:Nat)(p:Gf.F)(m:Nat):symR l rs n p (m+1)=symR l rs n p m++[Gf.lag (fun i=>byteOf (zat l i)) (fun i=>at_ (wat rs i).l m) n p]:=by simp[symR,List.range_succ]
theorem symR_length(l:List Int)(rs:List Raw)(n:Nat)(p:Gf.F)(m:Nat):(symR l rs n p m).length=m:=by simp[symR]
theorem symR_at(l:List Int)(rs:List Raw)(n:Nat)(p:Gf.F)(m b:Nat)(hb:b<m):at_ (symR l rs n p m) b=Gf.lag (fun i=>byteOf (zat l i)) (fun i=>at_ (wat rs i).l b) n p:=by simp[at_,symR,List.getD,hb]
theorem at_any(zb zo zc lb lo lc n m:Nat)(l:List Int)(rs:List Raw)(z:Int)(w:World)(hl:l.length=n)(hr:rs.length=n)(hn:0<n)(hn8:n<=8)(hp:placesB l n=true)(hz:0<=z/\z<=255)(hlen:∀ i,i<n->(wat rs i).l.length=m)(hm:m<=140737488355000)(hZ:Zs w zb zo l)(hW:Ws w lb lo rs):
 Calls Tryz.prog 123 #[.slice (some ⟨zb,zo,none⟩) n zc,.slice (some ⟨lb,lo,none⟩) n lc,.int .i64 z] w fun e w'=>
  ∃ v,e=.returned v/\w'.ownsRow w.heap.size 5 1 v m (encL (symR l rs n (byteOf z) m))/\Below w.heap.size w w':=by
 have hzl:=hZ.lt (by omega);obtain⟨iu,hiu,hu0,hu1,hu2⟩:=Tryz.u8_parts;have HL:Hid (l.length=n):=hl;have HR:Hid (rs.length=n):=hr;have HLEN:Hid (∀ i,i<n->(wat rs i).l.length=m):=hlen;clear hl hr hlen;go_enter Tryz.func123,Tryz.ntmps123;go_wp2_with fail
 go_loopw[7,8] (fun v t wr=>∃ b:Nat,b<=m/\t=.int .i64 b/\wr.ownsRow w.heap.size 5 1 v b (encL (symR l rs n (byteOf z) b))/\Below w.heap.size w wr) (fun _ t _=>m - (intOf t).toNat)
 case atStart=>exact⟨0,by omega,rfl,World.ownsRow_nil ..,Below.refl _ _⟩
 case round=>
  obtain⟨b,hb,rfl,hO,hbr⟩:=hrel;have hWr:=hW.below hbr;obtain⟨a0,c0,hc0',_⟩:=hWr.cellAt 0 (by rw[HR.out];exact hn);rw[HLEN.out 0 hn]at hc0';have hc0:wr.cell? ⟨lb,lo,none⟩=some (.slice a0 m c0):=hc0';clear hc0';have hi0:(0:Int)<(n:Int):=by omega
  obtain⟨wA,rfl⟩:∃ x,x=wr:=⟨wr,rfl⟩;by_cases hlt:b<m
  ·go_wp2_with fail
   go_loopw[9,10] (fun v t wr=>∃ i:Nat,i<=n/\t=.int .i64 i/\Two wr w.heap.size u7 b (symR l rs n (byteOf z) b) v i (colOf rs b i)/\Below w.heap.size w wr) (fun _ t _=>n - (intOf t).toNat)
   case atStart=>exact⟨0,by omega,rfl,⟨hO,World.ownsRow_nil ..,fun g _ q=>by cases q⟩,hbr⟩
   case round=>
    obtain⟨i,hi,rfl,hT,hb3⟩:=hrel;have hs3:=hb3.size;by_cases hlt2:i<n
    ·obtain⟨a1,c1,hc1,hf1⟩:=(hW.below hb3).cellAt i (by rw[HR.out];exact hlt2)
     rw[HLEN.out i hlt2]at hc1 hf1;obtain⟨b1,o1,rfl,hB1⟩:=hf1 (by omega);have hc2:wr.cell? ⟨b1,o1+b,none⟩=some (.int .u8 ((at_ (wat rs i).l b).toNat:Int)):=hB1 b (by rw[HLEN.out i hlt2];exact hlt);have hin:(i:Int)<(n:Int):=by omega
     have hbm:(b:Int)<(m:Int):=by omega
     clear hB1 hf1;go_wp2_with (at_builtin;refine wpList_append_lies _ rfl _ _ _ rfl w.heap.size 5 iu (.int .u8 0) 1 1 Tryz.underlying33 hiu hu0 hu1 hu2 rfl (by omega) u9 i (encL (colOf rs b i)) rfl (hT.col.alloc _) ⟨wr.heap.size,0,none⟩ 1 1 [.int .u8 ((at_ (wat rs i).l b).toNat:Int)] rfl rfl ?c1 ?c2 (by omega) ?c3 (by omega) ?c4 (wr.heap.size+1) ?c5 ?_)
     case c1=>exact cell_one_new _ _ _
     case c2=>intro u hu;simp at hu;subst hu;rfl
     case c3=>unfold maxLen;omega
     case c4=>simp;omega
     case c5=>simp
     intro ga ca w6 hown6 hgr6 hlie6 hlt6;have hT6:=hT.step hown6 hgr6 hlie6;rw[<- colOf_succ]at hT6;have hb6:Below w.heap.size w w6:=(hb3.alloc hs3 _).grown hgr6 (by simp;omega) (fun t ht=>(own_lt hT.col ht).1);clear hown6 hgr6 hlie6 hlt6;go_wp2_with fail
     go_roundw
     case rel=>exact⟨i+1,by omega,by go_num,hT6,hb6⟩
     case measure=>simp[intOf];omega
    ·obtain rfl:i=n:=by omega
     obtain⟨a9,c9,rfl,hf9⟩:=own_form hT.col;obtain⟨g9,rfl,_⟩:=hf9 hn;have hcol:=own_bs hT.col (colOf_length ..);have hout:=hT.out;obtain⟨wB,rfl⟩:∃ x,x=wr:=⟨wr,rfl⟩;go_wp2_with fail;refine(poly_any zb zo zc g9 0 c9 i l (colOf rs b i) _ HL.out (colOf_length ..) hn hn8 hp (hZ.below hb3 hzl) hcol).mono ?_;rintro e w5 ⟨gp,cp,cf,rfl,hop,hcf,hev,hb5⟩;have hBp:=own_bs hop hcf;have HEV:Hid (Gf.ev cf (byteOf z)=Gf.lag (fun i=>byteOf (zat l i)) (fun t=>at_ (wat rs t).l b) i (byteOf z)):=(hev _).trans (Gf.lag_congr (fun _ _=>rfl) (fun t ht=>colOf_at rs b i t ht) _);have hO5:=own_of_block hout (fun g hg=>hb5.block g (own_lt hout hg).2);have hb15:Below w.heap.size w w5:=hb3.trans (hb5.mono hs3);have hs5:=hb15.size;have HCF:Hid (cf.length=i):=hcf;clear hev hcf hop hcol hout hT;go_wp2_with fail;refine(value_any gp cp i cf z _ hz hn8 HCF.out hBp).mono ?_;rintro e w5' ⟨rfl,rfl⟩;rw[HEV.out];generalize hxx:Gf.lag (fun i=>byteOf (zat l i)) (fun t=>at_ (wat rs t).l b) i (byteOf z)=xx;have HXX:Hid (Gf.lag (fun i=>byteOf (zat l i)) (fun t=>at_ (wat rs t).l b) i (byteOf z)=xx):=hxx;clear hxx HEV;go_wp2_with (at_builtin;refine wpList_append_lies _ rfl _ _ _ rfl w.heap.size 5 iu (.int .u8 0) 1 1 Tryz.underlying33 hiu hu0 hu1 hu2 rfl (by omega) u7 b (encL (symR l rs i (byteOf z) b)) rfl (hO5.alloc _) ⟨w5'.heap.size,0,none⟩ 1 1 [.int .u8 (xx.toNat:Int)] rfl rfl ?c1 ?c2 (by omega) ?c3 (by omega) ?c4 (w5'.heap.size+1) ?c5 ?_)
     case c1=>exact cell_one_new _ _ _
     case c2=>intro u hu;simp at hu;subst hu;rfl
     case c3=>unfold maxLen;omega
     case c4=>simp;omega
     case c5=>simp
     intro ga ca w6 hown6 hgr6 hlie6 hlt6;have e:encL (symR l rs i (byteOf z) b)++[.int .u8 (xx.toNat:Int)]=encL (symR l rs i (byteOf z) (b+1)):=by rw[symR_succ,HXX.out];simp[encL]
     rw[e]at hown6;have hb6:Below w.heap.size w w6:=(hb15.alloc hs5 _).grown hgr6 (by simp;omega) (fun t ht=>(own_lt hO5 ht).1);clear e hgr6 hlie6 hlt6;go_wp2_with fail
     go_roundw
     case rel=>exact⟨b+1,by omega,by go_num,hown6,hb6⟩
     case measure=>simp[intOf];omega
  ·obtain rfl:b=m:=by omega
   go_wp2_with fail;go_ret;exact⟨u7,rfl,hO,hbr⟩
theorem frontZ_places(n:Nat)(hn:n<=8):placesB (frontZ n) n=true:=by
 rw[placesB_iff];intro i hi;rw[frontZ_at n i hi];refine⟨plcB_yes ⟨by omega,by omega⟩,?_⟩;rw[<- Bool.not_eq_true,hasB_iff];rintro⟨j,hj,e⟩;rw[frontZ_at n j (by omega)]at e;omega
theorem own_base{w:World}{B B' n:Nat}{e:TypeId}{v:Value}{xs:List Value}(h:w.ownsRow B e 1 v n xs)(hB:B'<=B):w.ownsRow B' e 1 v n xs:=by
 obtain⟨h1,h2⟩:=h;refine⟨h1,?_⟩;rcases h2 with h2|⟨g',cap,cur,h3,h4,h5⟩
 ·exact .inl h2
 ·exact .inr ⟨g',cap,cur,h3,Nat.le_trans hB h4,h5⟩
end Go.Proofs.YtjabhnhejbhgjaaGreatDoor
