import Derived.Test.YtjabhnhejbhgjaaGreatDoorCutWalks
import Derived.Test.YtjabhnhejbhgjaaGreatDoorMany8
import Derived.Test.YtjabhnhejbhgjaaGreatDoorMany12
set_option maxRecDepth 100000
set_option maxHeartbeats 8000000
namespace Go.Proofs.YtjabhnhejbhgjaaGreatDoor
open Go.RowKit
theorem parts_split(a s:Nat)(hs:1<=s):partsN a s=if 0<a%s then a/s+1 else a/s:=by
 have h1:=Nat.div_add_mod a s;have h2:=Nat.mod_lt a hs;unfold partsN;generalize a/s=q at *;generalize a%s=r at *;subst h1;rw[show s*q+r+s - 1=s*q+(r+s - 1) by omega,Nat.mul_add_div hs];split
 ·rename_i h
  rw[show r+s - 1=s+(r - 1) by omega,Nat.add_div_left _ hs,Nat.div_eq_of_lt (by omega)]
 ·rename_i h
  have:r=0:=by omega
  subst this;rw[Nat.div_eq_of_lt (by omega)];omega
theorem symN_split(S len:Nat)(hs:1<=S):symN S len=if 0<len%S∨len=0 then len/S+1 else len/S:=by
 unfold symN;rw[parts_split len S hs];by_cases h0:len=0
 ·subst h0;simp
 ·by_cases h1:0<len%S
  ·rw[if_pos h1,if_pos (.inl h1)];exact Nat.max_eq_right (Nat.succ_le_succ (Nat.zero_le _))
  ·rw[if_neg h1,if_neg (by omega)]
   have h2:=Nat.div_add_mod len S
   have:1<=len/S:=by
    rcases Nat.eq_zero_or_pos (len/S)with h|h
    ·rw[h]at h2;omega
    ·exact h
   omega
theorem cfg_low(K N S:Int)(w:World):Below w.heap.size w (w.alloc (.cells #[.int .i64 K,.int .i64 N,.int .i64 S] 30)):=(Below.refl _ _).alloc (Nat.le_refl _) _
theorem right_any(K N S:Int)(w:World):
 Calls Tryz.prog 119 #[.agg #[.int .i64 K,.int .i64 N,.int .i64 S]] w fun e w'=>e=.returned (.bool (cfgB K N S))/\Below w.heap.size w w':=by
 have HC:Hid (∀ b:Bool,(b=true↔1<=K/\K<=8/\K<=N/\N<=16/\1<=S/\S<=8)->Ending.returned (.bool b)=Ending.returned (.bool (cfgB K N S))):=fun b h=>by
  refine ret_bool ?_;rw[Bool.eq_iff_iff,h];unfold cfgB;simp only[Bool.and_eq_true,winB_iff];omega
 have HB:Hid (Below w.heap.size w (w.alloc (.cells #[.int .i64 K,.int .i64 N,.int .i64 S] 30))):=cfg_low K N S w;by_cases h1:1<=K
 ·by_cases h2:K<=8
  ·by_cases h3:K<=N
   ·by_cases h4:N<=16
    ·by_cases h5:1<=S
     ·by_cases h6:S<=8
      all_goals
       go_enter Tryz.func119,Tryz.ntmps119;go_wp2;go_ret;exact⟨HC.out _ (by simp;omega),HB.out⟩
     ·go_enter Tryz.func119,Tryz.ntmps119
      go_wp2;go_ret;exact⟨HC.out _ (by simp;omega),HB.out⟩
    ·go_enter Tryz.func119,Tryz.ntmps119
     go_wp2;go_ret;exact⟨HC.out _ (by simp;omega),HB.out⟩
   ·go_enter Tryz.func119,Tryz.ntmps119
    go_wp2;go_ret;exact⟨HC.out _ (by simp;omega),HB.out⟩
  ·go_enter Tryz.func119,Tryz.ntmps119
   go_wp2;go_ret;exact⟨HC.out _ (by simp;omega),HB.out⟩
 ·go_enter Tryz.func119,Tryz.ntmps119
  go_wp2;go_ret;exact⟨HC.out _ (by simp;omega),HB.out⟩
theorem rsymbols_any(K N S len:Nat)(hs:1<=S)(hs8:S<=8)(hl:len<=65535)(w:World):
 Calls Tryz.prog 89 #[.agg #[.int .i64 K,.int .i64 N,.int .i64 S],.int .i64 len] w fun e w'=>e=.returned (.int .i64 (symN S len:Int))/\Below w.heap.size w w':=by
 have HQ:Hid (symN S len=if 0<len%S∨len=0 then len/S+1 else len/S):=symN_split S len hs;have HB:Hid (Below w.heap.size w (w.alloc (.cells #[.int .i64 K,.int .i64 N,.int .i64 S] 30))):=cfg_low K N S w;obtain⟨q,hq⟩:∃ q:Nat,q=len/S:=⟨_,rfl⟩;obtain⟨r,hr⟩:∃ r:Nat,r=len%S:=⟨_,rfl⟩;have e1:(len:Int)/(S:Int)=(q:Int):=by rw[hq];simp
 have e2:(len:Int)%(S:Int)=(r:Int):=by rw[hr];simp
 have e1':(len:Int).tdiv (S:Int)=(q:Int):=by rw[Int.tdiv_eq_ediv_of_nonneg (by omega)];exact e1
 have e2':(len:Int).tmod (S:Int)=(r:Int):=by rw[Int.tmod_eq_emod_of_nonneg (by omega)];exact e2
 have hql:q<=len:=by rw[hq];exact Nat.div_le_self _ _
 have hs0:¬(S:Int)=0:=by omega
 have HQ2:Hid (symN S len=if 0<r∨len=0 then q+1 else q):=by show _=_;rw[hq,hr];exact HQ.out
 clear HQ hq hr;by_cases h1:0<r
 ·have h1':(r:Int) > 0:=by omega
  go_enter Tryz.func89,Tryz.ntmps89;go_wp2
  all_goals go_ret
  all_goals exact⟨ret_int (by rw[HQ2.out,if_pos (.inl h1)];omega),HB.out⟩
 ·obtain rfl:r=0:=by omega
  by_cases h2:len=0
  ·have h2':((len:Int)==0)=true:=by simp;omega
   go_enter Tryz.func89,Tryz.ntmps89;go_wp2
   all_goals go_ret
   all_goals exact⟨ret_int (by rw[HQ2.out,if_pos (.inr h2)];omega),HB.out⟩
  ·have h2':((len:Int)==0)=false:=by simp;omega
   go_enter Tryz.func89,Tryz.ntmps89;go_wp2
   all_goals go_ret
   all_goals exact⟨ret_int (by rw[HQ2.out,if_neg (by omega)]),HB.out⟩
theorem Below.undrew{B:Nat}{w w':World}(h:Below B w.drew w'):Below B w w':=⟨h.os,h.tape,h.output,h.size,h.block⟩
structure CfgAt(w w1:World)(K N S:Nat):Prop where
 low:Below w.heap.size w w1
 blk:w1.heap[w.heap.size]?=some (.cells #[.int .i64 K,.int .i64 N,.int .i64 S] 30 (0,0))
theorem CfgAt.start(w:World)(K N S:Nat):CfgAt w (w.alloc (.cells #[.int .i64 K,.int .i64 N,.int .i64 S] 30)) K N S:=⟨cfg_low K N S w,heap_alloc_new w _⟩
theorem CfgAt.lt{w w1:World}{K N S:Nat}(h:CfgAt w w1 K N S):w.heap.size<w1.heap.size:=(Array.getElem?_eq_some_iff.1 h.blk).1
theorem CfgAt.then{w w1 w2:World}{K N S:Nat}(h:CfgAt w w1 K N S)(hb:Below w1.heap.size w1 w2):CfgAt w w2 K N S:=⟨h.low.trans (hb.mono h.low.size),by rw[hb.block _ h.lt];exact h.blk⟩
theorem CfgAt.cells{w w1:World}{K N S:Nat}(h:CfgAt w w1 K N S):w1.cell? ⟨w.heap.size,0,none⟩=some (.int .i64 K)/\w1.cell? ⟨w.heap.size,1,none⟩=some (.int .i64 N)/\w1.cell? ⟨w.heap.size,2,none⟩=some (.int .i64 S):=
 ⟨cell_of_row w1 _ 0 _ _ _ h.blk,cell_of_row w1 _ 1 _ _ _ h.blk,cell_of_row w1 _ 2 _ _ _ h.blk⟩
theorem rblocks_any(K N S len:Nat)(hc:Cfg K N S)(hl:len<=65535)(w:World):
 Calls Tryz.prog 94 #[.agg #[.int .i64 K,.int .i64 N,.int .i64 S],.int .i64 len] w fun e w'=>e=.returned (.int .i64 (partsN (symN S len) K:Int))/\Below w.heap.size w w':=by
 obtain⟨k1,k8,kn,n16,s1,s8⟩:=hc;have hsy:=fun w=>rsymbols_any K N S len s1 s8 hl w
 have hr:=symN_range (S:=S) (len:=len) s1;generalize symN S len=T at *;have HQ:Hid (partsN T K=if 0<T%K then T/K+1 else T/K):=parts_split T K k1;have hst:=CfgAt.start w K N S;obtain⟨q,hq⟩:∃ q:Nat,q=T/K:=⟨_,rfl⟩;obtain⟨r,hrr⟩:∃ r:Nat,r=T%K:=⟨_,rfl⟩;have e1':(T:Int).tdiv (K:Int)=(q:Int):=by rw[Int.tdiv_eq_ediv_of_nonneg (by omega),hq];simp
 have e2':(T:Int).tmod (K:Int)=(r:Int):=by rw[Int.tmod_eq_emod_of_nonneg (by omega),hrr];simp
 have e1:(T:Int)/(K:Int)=(q:Int):=by rw[hq];simp
 have e2:(T:Int)%(K:Int)=(r:Int):=by rw[hrr];simp
 have hql:q<=T:=by rw[hq];exact Nat.div_le_self _ _
 have hs0:¬(K:Int)=0:=by omega
 have HQ2:Hid (partsN T K=if 0<r then q+1 else q):=by show _=_;rw[hq,hrr];exact HQ.out
 clear HQ hq hrr;go_enter Tryz.func94,Tryz.ntmps94;go_wp2_with fail;generalize (w.alloc (.cells #[.int .i64 K,.int .i64 N,.int .i64 S] 30))=W at *;refine(hsy _).mono ?_;rintro e w1 ⟨rfl,hb1⟩;have hst1:=hst.then hb1;obtain⟨c0,c1,c2⟩:=hst1.cells;have HB:Hid (Below w.heap.size w w1):=hst1.low;clear hst hst1 hb1 hsy;by_cases h1:0<r
 ·have h1':(r:Int) > 0:=by omega
  go_wp2
  all_goals go_ret
  all_goals exact⟨ret_int (by rw[HQ2.out,if_pos h1];omega),HB.out⟩
 ·obtain rfl:r=0:=by omega
  go_wp2
  all_goals go_ret
  all_goals exact⟨ret_int (by rw[HQ2.out,if_neg (by omega)]),HB.out⟩
theorem rsources_any(K N S len b:Nat)(hc:Cfg K N S)(hl:len<=65535)(hb:b*K<symN S len)(w:World):
 Calls Tryz.prog 96 #[.agg #[.int .i64 K,.int .i64 N,.int .i64 S],.int .i64 len,.int .i64 b] w fun e w'=>e=.returned (.int .i64 (srcN K (symN S len) b:Int))/\Below w.heap.size w w':=by
 obtain⟨k1,k8,kn,n16,s1,s8⟩:=hc;have hsy:=fun w=>rsymbols_any K N S len s1 s8 hl w
 have hr:=symN_range (S:=S) (len:=len) s1;generalize symN S len=T at *;obtain⟨m,hm⟩:∃ m:Nat,m=b*K:=⟨_,rfl⟩;have hmi:(b:Int)*(K:Int)=(m:Int):=by rw[hm];push_cast;rfl
 have hmT:m<T:=by omega
 have HQ:Hid (srcN K T b=min K (T - m)):=by show _=_;unfold srcN;rw[<- hm]
 clear hm hb;have hst:=CfgAt.start w K N S;obtain⟨c0,c1,c2⟩:=hst.cells;go_enter Tryz.func96,Tryz.ntmps96;go_upto_region 1 with fail;generalize (w.alloc (.cells #[.int .i64 K,.int .i64 N,.int .i64 S] 30))=W at *;have hw1:IntKind.i64.wrap (m:Int)=(m:Int):=by rw[IntKind.wrap_i64];omega
 have hw2:IntKind.i64.wrap ((T:Int) - (m:Int))=(T:Int) - (m:Int):=by rw[IntKind.wrap_i64];omega
 go_region_with (go_at_call 89;refine(hsy _).mono ?_;rintro e w1 ⟨rfl,hb1⟩;have d0:=(hst.then (Below.undrew hb1)).cells.1;have e0:=(hst.then (Below.undrew hb1)).low)
 all_goals (try simp only[hw1,hw2])
 all_goals go_wp2
 all_goals go_ret
 all_goals exact⟨ret_int (by rw[HQ.out];omega),by assumption⟩
theorem none_err(w:World):Calls Tryz.prog 93 #[] w fun e w'=>e=.returned (.agg #[.int .i64 0,.int .i64 (-1)])/\Below w.heap.size w w':=by
 go_enter Tryz.func93,Tryz.ntmps93;go_wp2_with fail
 (try simp only[Exit.inBlock,Exit.then])
 exact bodyPost_ret (v:=.agg #[.int .i64 0,.int .i64 (-1)]) (by simp[results,Tryz.results93,go_sem]) rfl ⟨rfl,(Below.refl _ _).alloc (Nat.le_refl _) _⟩
theorem plain_err(z:Int)(w:World):Calls Tryz.prog 92 #[.int .i64 z] w fun e w'=>e=.returned (.agg #[.int .i64 z,.int .i64 (-1)])/\Below w.heap.size w w':=by
 go_enter Tryz.func92,Tryz.ntmps92;go_wp2_with fail
 (try simp only[Exit.inBlock,Exit.then])
 exact bodyPost_ret (v:=.agg #[.int .i64 z,.int .i64 (-1)]) (by simp[results,Tryz.results92,go_sem]) rfl ⟨rfl,(Below.refl _ _).alloc (Nat.le_refl _) _⟩
theorem has_any(g c n:Nat)(l:List Int)(v:Int)(w:World)(hl:l.length=n)(hn:n<=140737488355328)(hZ:Zs w g 0 l):
 Calls Tryz.prog 136 #[.slice (some ⟨g,0,none⟩) n c,.int .i64 v] w fun e w'=>e=.returned (.bool (hasB l n v))/\w'=w:=by
 have HL:Hid (l.length=n):=hl;have HZ:Hid (∀ i,i<n->w.cell? ⟨g,i,none⟩=some (.int .i64 (zat l i))):=fun i hi=>by have:=hZ i (by omega);rwa [Nat.zero_add]at this
 clear hl hZ;go_enter Tryz.func136,Tryz.ntmps136;go_wp2_with fail
 go_loopw[5] (fun t wr=>∃ k:Nat,k<=n/\t=.int .i64 k/\wr=w/\Hid (∀ i,i<k->zat l i≠v)) (fun t _=>n - (intOf t).toNat)
 case atStart=>exact⟨0,by omega,rfl,rfl,fun i hi=>by omega⟩
 case round=>
  obtain⟨k,hk,rfl,rfl,hno⟩:=hrel;by_cases hlt:k<n
  ·have hc:=HZ.out k hlt
   by_cases hv:zat l k=v
   ·have hv':(zat l k==v)=true:=by simp[hv]
    go_wp2_with fail;go_ret;exact⟨ret_bool ((hasB_iff l n v).2 ⟨k,hlt,hv⟩).symm,rfl⟩
   ·have hv':(zat l k==v)=false:=by simp[hv]
    go_wp2_with fail
    go_roundw
    case rel=>exact⟨k+1,by omega,by go_num,trivial,fun i hi=>by
     by_cases e:i=k
     ·subst e;exact hv
     ·exact hno.out i (by omega)⟩
    case measure=>simp[intOf];omega
  ·obtain rfl:k=n:=by omega
   go_wp2_with fail;go_ret;refine⟨ret_bool ?_,rfl⟩;cases h:hasB l k v
   ·rfl
   ·obtain⟨i,hi,hv⟩:=(hasB_iff l k v).1 h
    exact absurd hv (hno.out i hi)
def ordA(K i:Nat):List Int:=(List.range i).map fun t=>((K+t:Nat):Int)
theorem ordA_succ(K i:Nat):ordA K (i+1)=ordA K i++[((K+i:Nat):Int)]:=by simp[ordA,List.range_succ]
theorem ordA_length(K i:Nat):(ordA K i).length=i:=by simp[ordA]
def ordL(K N q:Nat):List Int:=ordA K (N - K)++frontZ q
theorem ordL_length(K N q:Nat):(ordL K N q).length=N - K+q:=by simp[ordL,ordA_length,frontZ_length]
theorem ordL_has(K N q p:Nat)(hk:K<=N):hasB (ordL K N q) (N - K+q) (p:Int)=decide (p<q∨(K<=p/\p<N)):=by
 rw[Bool.eq_iff_iff,hasB_iff,decide_eq_true_iff]
 have hA:∀ i,i<N - K->zat (ordL K N q) i=((K+i:Nat):Int):=fun i hi=>by
  simp[zat,ordL,ordA,List.getD,List.getElem?_append_left,hi]
 have hB:∀ i,i<q->zat (ordL K N q) (N - K+i)=(i:Int):=fun i hi=>by
  simp[zat,ordL,ordA,frontZ,List.getD,hi]
 constructor
 ·rintro⟨i,hi,h⟩
  by_cases h1:i<N - K
  ·rw[hA i h1]at h;omega
  ·obtain⟨j,rfl⟩:∃ j,i=N - K+j:=⟨i - (N - K),by omega⟩
   rw[hB j (by omega)]at h;omega
 ·rintro(h|h)
  ·exact⟨N - K+p,by omega,hB p h⟩
  ·exact⟨p - K,by omega,by rw[hA _ (by omega)];omega⟩
theorem order_any(K N S len b:Nat)(hc:Cfg K N S)(hl:len<=65535)(hb:b*K<symN S len)(w:World):
 Calls Tryz.prog 91 #[.agg #[.int .i64 K,.int .i64 N,.int .i64 S],.int .i64 len,.int .i64 b] w fun e w'=>
  ∃ g c,e=.returned (.slice (some ⟨g,0,none⟩) (N - K+srcN K (symN S len) b) c)/\Zs w' g 0 (ordL K N (srcN K (symN S len) b))/\Below w.heap.size w w':=by
 have hsr:=fun w=>rsources_any K N S len b hc hl hb w
 obtain⟨k1,k8,kn,n16,s1,s8⟩:=hc;have hq1:1<=srcN K (symN S len) b:=by unfold srcN;omega
 have hq8:srcN K (symN S len) b<=8:=by unfold srcN;omega
 generalize srcN K (symN S len) b=q at *;clear hb;obtain⟨iu,hiu,hu0,hu1,hu2⟩:=Tryz.int_parts;have hst:=CfgAt.start w K N S;have HKN:Hid (K<=N):=kn;go_enter Tryz.func91,Tryz.ntmps91;go_upto_region 2 with fail;generalize (w.alloc (.cells #[.int .i64 K,.int .i64 N,.int .i64 S] 30))=W at *;obtain⟨c0,c1,c2⟩:=hst.cells;go_wp2_with fail
 go_loopw[7,8] (fun v t wr=>∃ k:Nat,k<=N - K/\t=.int .i64 ((K+k:Nat):Int)/\wr.ownsRow (w.heap.size+1) 3 1 v k (encZ (ordA K k))/\CfgAt w wr K N S) (fun _ t _=>N - (intOf t).toNat)
 case atStart=>exact⟨0,by omega,rfl,World.ownsRow_nil ..,hst⟩
 case round=>
  clear hst c0 c1 c2;obtain⟨k,hk,rfl,hO,hst⟩:=hrel;obtain⟨c0,c1,c2⟩:=hst.cells;have hs:=hst.lt;by_cases hlt:k<N - K
  ·have hlt':((K+k:Nat):Int)<(N:Int):=by omega
   obtain⟨z,hz⟩:∃ z:Nat,z=K+k:=⟨_,rfl⟩;rw[<- hz]at hlt' ⊢;have HZ:Hid (z=K+k):=hz;have hz16:z<=16:=by omega
   clear hz;go_wp2_with (at_builtin;refine wpList_append_lies _ rfl _ _ _ rfl (w.heap.size+1) 3 iu (.int .i64 0) 1 8 Tryz.underlying75 hiu hu0 hu1 hu2 rfl (by omega) u7 k (encZ (ordA K k)) rfl (hO.alloc _) ⟨wr.heap.size,0,none⟩ 1 1 [.int .i64 z] rfl rfl ?c1 ?c2 (by omega) ?c3 (by omega) ?c4 (wr.heap.size+1) ?c5 ?_)
   case c1=>exact cell_one_new _ _ _
   case c2=>intro u hu;simp at hu;subst hu;rfl
   case c3=>unfold maxLen;omega
   case c4=>simp;omega
   case c5=>simp
   intro ga ca w6 hown6 hgr6 hlie6 hlt6;have hb6:Below (w.heap.size+1) wr w6:=((Below.refl _ wr).alloc (by omega) _).grown hgr6 (by simp;omega) (fun t ht=>(own_lt hO ht).1);have e:encZ (ordA K k)++[.int .i64 z]=encZ (ordA K (k+1)):=by rw[ordA_succ,<- HZ.out];simp[encZ]
   rw[e]at hown6;have hst6:CfgAt w w6 K N S:=⟨hst.low.trans (hb6.mono (by omega)),by rw[hb6.block _ (by omega)];exact hst.blk⟩;clear e hgr6 hlie6 hlt6 hst hO;go_wp2_with fail
   go_roundw
   case rel=>exact⟨k+1,by omega,by rw[HZ.out];go_num,hown6,hst6⟩
   case measure=>simp[intOf];omega
  ·obtain rfl:k=N - K:=by omega
   have e1:((K+(N - K):Nat):Int)=(N:Int):=by omega
   rw[e1];have hnn:¬(N:Int)<(N:Int):=by omega
   go_wp2_with fail
   go_loopw[7,9] (fun v t wr=>∃ j:Nat,j<=q/\t=.int .i64 j/\wr.ownsRow (w.heap.size+1) 3 1 v (N - K+j) (encZ (ordL K N j))/\CfgAt w wr K N S) (fun _ t _=>q - (intOf t).toNat)
   case atStart=>exact⟨0,by omega,rfl,by simpa [ordL,frontZ] using hO,hst⟩
   case round=>
    clear hst hO c0 c1 c2 hs;obtain⟨wA,rfl⟩:∃ x,x=wr:=⟨wr,rfl⟩;obtain⟨j,hj,rfl,hO,hst⟩:=hrel;obtain⟨c0,c1,c2⟩:=hst.cells;have hs:=hst.lt;go_wp2_with fail;refine(hsr _).mono ?_;rintro e w1 ⟨rfl,hb1⟩;have hst1:=hst.then hb1;have hO1:=own_of_block hO (fun g hg=>hb1.block g (hO.lt g hg).2);have hs1:=hst1.lt;clear hO hst hb1 hs;by_cases hlt:j<q
    ·have hlt':(j:Int)<(q:Int):=by omega
     obtain⟨m,hm⟩:∃ m:Nat,m=N - K+j:=⟨_,rfl⟩;rw[<- hm]at hO1;have HM:Hid (m=N - K+j):=hm;have hm2:m<=30:=by omega
     clear hm;go_wp2_with (at_builtin;refine wpList_append_lies _ rfl _ _ _ rfl (w.heap.size+1) 3 iu (.int .i64 0) 1 8 Tryz.underlying75 hiu hu0 hu1 hu2 rfl (by omega) u7 m (encZ (ordL K N j)) rfl (hO1.alloc _) ⟨w1.heap.size,0,none⟩ 1 1 [.int .i64 j] rfl rfl ?c1 ?c2 (by omega) ?c3 (by omega) ?c4 (w1.heap.size+1) ?c5 ?_)
     case c1=>exact cell_one_new _ _ _
     case c2=>intro u hu;simp at hu;subst hu;rfl
     case c3=>unfold maxLen;omega
     case c4=>simp;omega
     case c5=>simp
     intro ga ca w6 hown6 hgr6 hlie6 hlt6;have hb6:Below (w.heap.size+1) w1 w6:=((Below.refl _ w1).alloc (by omega) _).grown hgr6 (by simp;omega) (fun t ht=>(own_lt hO1 ht).1);have e:encZ (ordL K N j)++[.int .i64 j]=encZ (ordL K N (j+1)):=by simp[ordL,frontZ_succ,encZ]
     rw[e]at hown6;have hst6:CfgAt w w6 K N S:=⟨hst1.low.trans (hb6.mono (by omega)),by rw[hb6.block _ (by omega)];exact hst1.blk⟩;have em:m+1=N - K+(j+1):=by rw[HM.out];omega
     rw[em]at hown6;clear e hgr6 hlie6 hlt6 hst1 hO1;go_wp2_with fail
     go_roundw
     case rel=>exact⟨j+1,by omega,by go_num,by rw[em];exact hown6,hst6⟩
     case measure=>simp[intOf];omega
    ·obtain rfl:j=q:=by omega
     have hjj:¬(j:Int)<(j:Int):=by omega
     obtain⟨a3,c3,rfl,hf3⟩:=own_form hO1;obtain⟨g3,rfl,_⟩:=hf3 (by omega);go_wp2_with fail;go_ret;exact⟨g3,c3,rfl,own_zs hO1 (ordL_length ..),hst1.low⟩
end Go.Proofs.YtjabhnhejbhgjaaGreatDoor
