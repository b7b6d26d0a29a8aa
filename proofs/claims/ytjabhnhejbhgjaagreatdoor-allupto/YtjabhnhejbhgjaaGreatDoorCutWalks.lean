import Derived.Test.YtjabhnhejbhgjaaGreatDoorMany6
import Derived.Deep.RegionWith
set_option maxRecDepth 100000
set_option maxHeartbeats 8000000
namespace Go.Proofs.YtjabhnhejbhgjaaGreatDoor
open Go.RowKit
def winB(x a b:Int):Bool:=decide (a<=x/\x<=b)
theorem winB_yes{x a b:Int}(h1:a<=x)(h2:x<=b):winB x a b=true:=decide_eq_true ⟨h1,h2⟩
theorem winB_no{x a b:Int}(h:¬(a<=x/\x<=b)):winB x a b=false:=decide_eq_false h
theorem winB_iff{x a b:Int}:winB x a b=true↔a<=x/\x<=b:=decide_eq_true_iff
def cfgB(K N S:Int):Bool:=winB K 1 8 && winB N K 16 && winB S 1 8
structure Cfg(K N S:Nat):Prop where
 k1:1<=K
 k8:K<=8
 kn:K<=N
 n16:N<=16
 s1:1<=S
 s8:S<=8
theorem cfgB_cfg{K N S:Int}(h:cfgB K N S=true):∃ k n s:Nat,K=(k:Int)/\N=(n:Int)/\S=(s:Int)/\Cfg k n s:=by
 unfold cfgB at h;simp only[Bool.and_eq_true,winB_iff]at h;exact⟨K.toNat,N.toNat,S.toNat,by omega,by omega,by omega,⟨by omega,by omega,by omega,by omega,by omega,by omega⟩⟩
def partsN(a s:Nat):Nat:=(a+s - 1)/s
def symN(S len:Nat):Nat:=max 1 (partsN len S)
def srcN(K T b:Nat):Nat:=min K (T - b*K)
def plcN(K N T b p:Nat):Bool:=decide (p<srcN K T b∨(K<=p/\p<N))
theorem partsN_le{a s:Nat}(h:1<=s):partsN a s<=a:=by
 unfold partsN;rcases Nat.eq_zero_or_pos a with rfl|ha
 ·rw[Nat.div_eq_of_lt (by omega)];omega
 ·refine Nat.div_le_of_le_mul ?_
  have:a<=s*a:=Nat.le_mul_of_pos_left a h;obtain⟨d,rfl⟩:∃ d,s=d+1:=⟨s - 1,by omega⟩;have h2:(d+1)*a=d*a+a:=by rw[Nat.add_mul,Nat.one_mul]
  have h3:d<=d*a:=Nat.le_mul_of_pos_right d ha;omega
theorem symN_range{S len:Nat}(h:1<=S):1<=symN S len/\symN S len<=len+1:=by
 have:=partsN_le (a:=len) h;unfold symN;omega
theorem partsN_mul{T K:Nat}(h:1<=K){b:Nat}(hb:b<partsN T K):b*K<T:=by
 unfold partsN at hb;have h1:=(Nat.lt_div_iff_mul_lt (by omega):b<(T+K - 1)/K↔_).1 hb;omega
theorem within_any(x a b:Int)(w:World):
 Calls Tryz.prog 78 #[.int .i64 x,.int .i64 a,.int .i64 b] w fun e w'=>e=.returned (.bool (winB x a b))/\w'=w:=by
 by_cases h1:a<=x
 ·by_cases h2:x<=b
  ·go_enter Tryz.func78,Tryz.ntmps78
   go_wp2;go_ret;exact⟨ret_bool (winB_yes h1 (by omega)).symm,rfl⟩
  ·go_enter Tryz.func78,Tryz.ntmps78
   go_wp2;go_ret;exact⟨ret_bool (winB_no (by omega)).symm,rfl⟩
 ·go_enter Tryz.func78,Tryz.ntmps78
  go_wp2;go_ret;exact⟨ret_bool (winB_no (by omega)).symm,rfl⟩
theorem isConfig_any(K N S:Int)(w:World):
 Calls Tryz.prog 50 #[.agg #[.int .i64 K,.int .i64 N,.int .i64 S]] w fun e w'=>e=.returned (.bool (cfgB K N S))/\Below w.heap.size w w':=by
 have hb:Below w.heap.size w (w.alloc (.cells #[.int .i64 K,.int .i64 N,.int .i64 S] 30)):=(Below.refl _ _).alloc (Nat.le_refl _) _;have HB:Hid (Below w.heap.size w (w.alloc (.cells #[.int .i64 K,.int .i64 N,.int .i64 S] 30))):=hb;clear hb;cases h1:winB K 1 8<;>cases h2:winB N K 16<;>cases h3:winB S 1 8
 all_goals
  have HC:Hid (cfgB K N S=(winB K 1 8 && winB N K 16 && winB S 1 8)):=rfl;go_enter Tryz.func50,Tryz.ntmps50;go_wp2_with (go_at_call 78;refine(within_any _ _ _ _).mono ?_;rintro e w' ⟨rfl,rfl⟩;(try rw[h1]);(try rw[h2]);(try rw[h3]));go_ret;exact⟨ret_bool (by rw[HC.out,h1,h2,h3];rfl),HB.out⟩
theorem parts_any(a s:Nat)(hs:1<=s)(ha:a<=100000)(hs8:s<=100)(w:World):
 Calls Tryz.prog 103 #[.int .i64 a,.int .i64 s] w fun e w'=>e=.returned (.int .i64 (partsN a s:Int))/\w'=w:=by
 have hs0:¬((s:Int)=0):=by omega
 have hp:(partsN a s:Int)=((a:Int)+(s:Int) - 1)/(s:Int):=by
  unfold partsN;rw[Int.natCast_ediv];congr 1;omega
 have HP:Hid ((partsN a s:Int)=((a:Int)+(s:Int) - 1)/(s:Int)):=hp;have hn:0<=(a:Int)+(s:Int) - 1:=by omega
 have hle:((a:Int)+(s:Int) - 1)/(s:Int)<=100100:=by rw[<- hp];have:=partsN_le (a:=a) hs;omega
 have hge:0<=((a:Int)+(s:Int) - 1)/(s:Int):=by rw[<- hp];omega
 clear hp;go_enter Tryz.func103,Tryz.ntmps103;go_wp2;go_ret;exact⟨ret_int (by rw[HP.out];try rw[Int.tdiv_eq_ediv_of_nonneg hn]),rfl⟩
theorem plan_low(K N S T:Nat)(w:World):Below w.heap.size w (w.alloc (.cells #[.int .i64 K,.int .i64 N,.int .i64 S,.int .i64 T] 148)):=(Below.refl _ _).alloc (Nat.le_refl _) _
theorem of_any(K N S len:Nat)(hc:Cfg K N S)(hl:len<=65535)(w:World):
 Calls Tryz.prog 60 #[.agg #[.int .i64 K,.int .i64 N,.int .i64 S],.int .i64 len] w fun e w'=>e=.returned (.agg #[.int .i64 K,.int .i64 N,.int .i64 S,.int .i64 (symN S len:Int)])/\Below w.heap.size w w':=by
 have hp:=fun w=>parts_any len S hc.s1 (by omega) (by have:=hc.s8;omega) w
 have hq:max 1 (partsN len S:Int)=(symN S len:Int):=by unfold symN;omega
 have HQ:Hid (max 1 (partsN len S:Int)=(symN S len:Int)):=hq;have hr:=symN_range (S:=S) (len:=len) hc.s1;have hpl:=partsN_le (a:=len) hc.s1;clear hq;go_enter Tryz.func60,Tryz.ntmps60;go_wp2_with fail
 go_region_with (go_at_call 103;refine(hp _).mono ?_;rintro e w' ⟨rfl,rfl⟩)
 all_goals go_wp2_with fail
 all_goals
  have hv:∀ z:Int,z=max 1 (partsN len S:Int)->z=(symN S len:Int):=fun z h=>by rw[h,HQ.out]
  first
   | exact bodyPost_ret (v:=.agg #[.int .i64 K,.int .i64 N,.int .i64 S,.int .i64 (partsN len S:Int)]) (by simp[results,Tryz.results60,go_sem]) rfl ⟨by rw[hv (partsN len S:Int) (by omega)],(((Below.refl _ _).alloc (Nat.le_refl _) _).alloc (by simp) _).drew⟩
   | exact bodyPost_ret (v:=.agg #[.int .i64 K,.int .i64 N,.int .i64 S,.int .i64 1]) (by simp[results,Tryz.results60,go_sem]) rfl ⟨by rw[hv 1 (by omega)],(((Below.refl _ _).alloc (Nat.le_refl _) _).alloc (by simp) _).drew⟩
theorem blocks_any(K N S T:Nat)(hk:1<=K)(hk8:K<=8)(hT:T<=70000)(w:World):
 Calls Tryz.prog 61 #[.agg #[.int .i64 K,.int .i64 N,.int .i64 S,.int .i64 T]] w fun e w'=>e=.returned (.int .i64 (partsN T K:Int))/\Below w.heap.size w w':=by
 have hp:=fun w=>parts_any T K hk (by omega) (by omega) w
 have HB:Hid (∀ w:World,Below w.heap.size w (w.alloc (.cells #[.int .i64 K,.int .i64 N,.int .i64 S,.int .i64 T] 148))):=plan_low K N S T;go_enter Tryz.func61,Tryz.ntmps61;go_wp2_with (go_at_call 103;refine(hp _).mono ?_;rintro e w' ⟨rfl,rfl⟩);go_ret;exact⟨rfl,HB.out _⟩
theorem hasBlock_any(K N S T:Nat)(x:Int)(hk:1<=K)(hk8:K<=8)(hT:T<=70000)(w:World):
 Calls Tryz.prog 108 #[.agg #[.int .i64 K,.int .i64 N,.int .i64 S,.int .i64 T],.int .i64 x] w fun e w'=>e=.returned (.bool (winB x 0 ((partsN T K:Int) - 1)))/\Below w.heap.size w w':=by
 have hB:=fun w=>blocks_any K N S T hk hk8 hT w
 have hle:=partsN_le (a:=T) hk;have HB:Hid (∀ w:World,Below w.heap.size w (w.alloc (.cells #[.int .i64 K,.int .i64 N,.int .i64 S,.int .i64 T] 148))):=plan_low K N S T;go_enter Tryz.func108,Tryz.ntmps108;go_wp2_with fail;refine(hB _).mono ?_;rintro e w1 ⟨rfl,hb1⟩;have hlow:=(HB.out w).trans (hb1.mono (by simp));go_wp2_with (go_at_call 78;refine(within_any _ _ _ _).mono ?_;rintro e w' ⟨rfl,rfl⟩);go_ret;exact⟨rfl,hlow⟩
theorem sources_any(K N S T b:Nat)(hT:T<=70000)(hb:b*K<T)(w:World):
 Calls Tryz.prog 74 #[.agg #[.int .i64 K,.int .i64 N,.int .i64 S,.int .i64 T],.int .i64 b] w fun e w'=>e=.returned (.int .i64 (srcN K T b:Int))/\Below w.heap.size w w':=by
 have HB:Hid (∀ w:World,Below w.heap.size w (w.alloc (.cells #[.int .i64 K,.int .i64 N,.int .i64 S,.int .i64 T] 148))):=plan_low K N S T;obtain⟨m,hm⟩:∃ m:Nat,m=b*K:=⟨_,rfl⟩;have hmi:(b:Int)*(K:Int)=(m:Int):=by rw[hm];push_cast;rfl
 have hmT:m<T:=by omega
 have HQ:Hid ((srcN K T b:Int)=min (K:Int) ((T:Int) - (m:Int))):=by show _=_;unfold srcN;rw[<- hm];omega
 clear hm hb;go_enter Tryz.func74,Tryz.ntmps74;go_wp2
 all_goals go_ret
 all_goals exact⟨ret_int (by rw[HQ.out];omega),HB.out _⟩
theorem hasPlace_any(K N S T b:Nat)(p:Nat)(hc:Cfg K N S)(hT:T<=70000)(hb:b*K<T)(w:World):
 Calls Tryz.prog 110 #[.agg #[.int .i64 K,.int .i64 N,.int .i64 S,.int .i64 T],.int .i64 b,.int .i64 p] w fun e w'=>e=.returned (.bool (plcN K N T b p))/\Below w.heap.size w w':=by
 obtain⟨k1,k8,kn,n16,s1,s8⟩:=hc;have hS:=fun w=>sources_any K N S T b hT hb w
 have HB:Hid (∀ w:World,Below w.heap.size w (w.alloc (.cells #[.int .i64 K,.int .i64 N,.int .i64 S,.int .i64 T] 148))):=plan_low K N S T;have hle:srcN K T b<=8:=by unfold srcN;omega
 have HP:Hid (plcN K N T b p=(winB (p:Int) 0 ((srcN K T b:Int) - 1) || winB (p:Int) (K:Int) ((N:Int) - 1))):=by
  show _=_;unfold plcN winB;rw[<- Bool.decide_or];congr 1;apply propext;constructor<;>intro h<;>omega
 generalize srcN K T b=q at *;have hc0:w.heap.size<(w.alloc (.cells #[.int .i64 K,.int .i64 N,.int .i64 S,.int .i64 T] 148)).heap.size:=by simp
 have hc1:(w.alloc (.cells #[.int .i64 K,.int .i64 N,.int .i64 S,.int .i64 T] 148)).heap[w.heap.size]?=some (.cells #[.int .i64 K,.int .i64 N,.int .i64 S,.int .i64 T] 148 (0,0)):=heap_alloc_new w _;have hlow0:=HB.out w;cases h1:winB (p:Int) 0 ((q:Int) - 1)<;>cases h2:winB (p:Int) (K:Int) ((N:Int) - 1)
 all_goals
  go_enter Tryz.func110,Tryz.ntmps110;go_wp2_with fail;generalize (w.alloc (.cells #[.int .i64 K,.int .i64 N,.int .i64 S,.int .i64 T] 148))=W at *;refine(hS _).mono ?_;rintro e w1 ⟨rfl,hb1⟩;have hlow:=hlow0.trans (hb1.mono (Nat.le_of_lt hc0));have hblk:=(hb1.block _ hc0).trans hc1;have c0:w1.cell? ⟨w.heap.size,0,none⟩=some (.int .i64 K):=cell_of_row w1 _ 0 _ _ _ hblk;have c1:w1.cell? ⟨w.heap.size,1,none⟩=some (.int .i64 N):=cell_of_row w1 _ 1 _ _ _ hblk;clear hc0 hc1 hblk hb1;go_wp2_with (go_at_call 78;refine(within_any _ _ _ _).mono ?_;rintro e w' ⟨rfl,rfl⟩;(try rw[h1]);(try rw[h2]));go_ret;exact⟨ret_bool (by rw[HP.out,h1,h2];rfl),hlow⟩
end Go.Proofs.YtjabhnhejbhgjaaGreatDoor
