import Derived.Test.YtjabhnhejbhgjaaGreatDoorMulWalks
import Derived.Test.YtjabhnhejbhgjaaGreatDoorMem
import Derived.Test.YtjabhnhejbhgjaaGreatDoorMany1
set_option maxRecDepth 100000
set_option maxHeartbeats 8000000
namespace Go.Proofs.YtjabhnhejbhgjaaGreatDoor
open Go.RowKit
def plcB(k:Int):Bool:=decide (0<=k/\k<=255)
theorem plcB_yes{k:Int}(h:0<=k/\k<=255):plcB k=true:=decide_eq_true h
theorem ret_bool{a b:Bool}(h:a=b):Ending.returned (.bool a)=.returned (.bool b):=by rw[h]
theorem inverse_any(a:Gf.F)(w:World):
 Calls Tryz.prog 141 #[.int .u8 (a.toNat:Int)] w fun e w'=>e=.returned (.int .u8 ((Gf.inv a).toNat:Int))/\w'=w:=by
 go_enter Tryz.func141,Tryz.ntmps141;go_wp2
 go_loop [3,4,6] (fun s t u=>∃(i p:Gf.F) (k:Nat),k<=7/\s=.int .u8 (i.toNat:Int)/\t=.int .u8 (p.toNat:Int)/\u=.int .i64 k/\Gf.invN (7 - k) i p=Gf.inv a) (fun _ _ u=>7 - (intOf u).toNat)
 case atStart=>exact⟨1,a,0,by omega,rfl,rfl,rfl,rfl⟩
 case round=>
  obtain⟨i,p,k,hk,rfl,rfl,rfl,hm⟩:=hrel;have HM:Hid (Gf.invN (7 - k) i p=Gf.inv a):=hm;clear hm;by_cases hlt:k<7
  ·go_wp2_with (go_at_call 140;refine(fieldMul_any _ _ _).mono ?_;rintro e w' ⟨rfl,rfl⟩)
   go_round
   case rel=>exact⟨_,_,k+1,by omega,rfl,rfl,by go_num,by have h:=HM.out;rw[show 7 - k=(7 - (k+1))+1 by omega]at h;exact h⟩
   case measure=>simp[intOf];omega
  ·obtain rfl:k=7:=by omega
   go_wp2;go_ret;exact⟨ret_int (by rw[<- HM.out];rfl),rfl⟩
theorem weight_any(b o c:Nat)(l:List Gf.F)(i:Nat)(p:Gf.F)(w:World)(hl:l.length<=1000)(hi:i<l.length)(hB:Bs w b o l):
 Calls Tryz.prog 126 #[.slice (some ⟨b,o,none⟩) l.length c,.int .i64 i,.int .u8 (p.toNat:Int)] w fun e w'=>e=.returned (.int .u8 ((Gf.wt (at_ l) l.length i p).toNat:Int))/\w'=w:=by
 have hci:w.cell? ⟨b,o+i,none⟩=some (.int .u8 ((at_ l i).toNat:Int)):=hB i hi;go_enter Tryz.func126,Tryz.ntmps126;go_wp2_with fail
 go_loop [7,8,13] (fun s t u=>∃ k:Nat,k<=l.length/\s=.int .u8 ((Gf.prod (at_ l) i p k).toNat:Int)/\t=.int .u8 ((Gf.prod (at_ l) i (at_ l i) k).toNat:Int)/\u=.int .i64 k) (fun _ _ u=>l.length - (intOf u).toNat)
 case atStart=>exact⟨0,by omega,rfl,rfl,rfl⟩
 case round=>
  obtain⟨k,hk,rfl,rfl,rfl⟩:=hrel;by_cases hlt:k<l.length
  ·have hck:w.cell? ⟨b,o+k,none⟩=some (.int .u8 ((at_ l k).toNat:Int)):=hB k hlt
   by_cases e:k=i
   ·have hp:∀ q,Gf.prod (at_ l) i q (k+1)=Gf.prod (at_ l) i q k:=fun q=>by simp only[Gf.prod];rw[if_pos e]
    have HP:Hid (∀ q,Gf.prod (at_ l) i q (k+1)=Gf.prod (at_ l) i q k):=hp;clear hp;have hne:((k:Int) != (i:Int))=false:=by rw[e];simp
    clear e;go_wp2_with fail
    go_round
    case rel=>exact⟨k+1,by omega,by rw[HP.out],by rw[HP.out],by go_num⟩
    case measure=>simp[intOf];omega
   ·have hp:∀ q,Gf.prod (at_ l) i q (k+1)=Gf.mul (Gf.prod (at_ l) i q k) (Gf.add q (at_ l k)):=fun q=>by simp only[Gf.prod];rw[if_neg e];rfl
    have HP:Hid (∀ q,Gf.prod (at_ l) i q (k+1)=Gf.mul (Gf.prod (at_ l) i q k) (Gf.add q (at_ l k))):=hp;clear hp;have hne:((k:Int) != (i:Int))=true:=by rw[bne_iff_ne];omega
    have hx1:=Gf.addF p (at_ l k);have hx2:=Gf.addF (at_ l i) (at_ l k);clear e;go_wp2_with (go_at_call 140;refine(fieldMul_any _ _ _).mono ?_;rintro e w' ⟨rfl,rfl⟩)
    go_round
    case rel=>exact⟨k+1,by omega,by rw[HP.out],by rw[HP.out],by go_num⟩
    case measure=>simp[intOf];omega
  ·obtain rfl:k=l.length:=by omega
   go_wp2_with (first | (go_at_call 140;refine(fieldMul_any _ _ _).mono ?_;rintro e w' ⟨rfl,rfl⟩)|(go_at_call 141;refine(inverse_any _ _).mono ?_;rintro e w' ⟨rfl,rfl⟩));go_ret;exact⟨rfl,rfl⟩
theorem ofInt64(a:Nat)(ha:a<32768):(BitVec.ofInt 64 (a:Int)).toNat=a:=by
 rw[BitVec.ofInt_natCast,BitVec.toNat_ofNat];exact Nat.mod_eq_of_lt (by omega)
theorem i64_xor_nat(a b:Nat)(ha:a<32768)(hb:b<32768):bits .xor .i64 (a:Int) (b:Int)=((a ^^^ b:Nat):Int):=by
 have hx:a ^^^ b<2 ^ 15:=Nat.xor_lt_two_pow (by omega) (by omega);show IntKind.i64.wrap ((BitVec.ofInt 64 (a:Int) ^^^ BitVec.ofInt 64 (b:Int)).toNat:Int)=_;rw[BitVec.toNat_xor,ofInt64 a ha,ofInt64 b hb,IntKind.wrap_i64];omega
theorem i64_bit(x n:Nat)(hx:x<32768):(bits .and .i64 ((x:Int)/2 ^ n) 1==1)=x.testBit n:=by
 have e0:((x:Int)/2 ^ n)=((x/2 ^ n:Nat):Int):=by simp
 have hq:x/2 ^ n<32768:=Nat.lt_of_le_of_lt (Nat.div_le_self _ _) hx
 have e1:bits .and .i64 ((x/2 ^ n:Nat):Int) 1=((x/2 ^ n%2:Nat):Int):=by
  show IntKind.i64.wrap ((BitVec.ofInt 64 ((x/2 ^ n:Nat):Int) &&& BitVec.ofInt 64 ((1:Nat):Int)).toNat:Int)=_;rw[BitVec.toNat_and,ofInt64 _ hq,ofInt64 1 (by omega),IntKind.wrap_i64,Nat.and_one_is_mod];omega
 rw[e0,e1,Nat.testBit_eq_decide_div_mod_eq,Bool.eq_iff_iff,beq_iff_eq,decide_eq_true_iff];omega
theorem i64_shl(y k:Nat)(h:y*2 ^ k<32768):wrap64 ((y:Int)*2 ^ k)=((y <<< k:Nat):Int):=by
 have e0:((y:Int)*2 ^ k)=((y*2 ^ k:Nat):Int):=by simp
 rw[e0,Nat.shiftLeft_eq];unfold wrap64;omega
theorem mul_pow_lt{y k c m:Nat}(hy:y<=c)(hk:k<=m)(h:c*2 ^ m<32768):y*2 ^ k<32768:=
 Nat.lt_of_le_of_lt (Nat.mul_le_mul hy (Nat.pow_le_pow_right (by omega) hk)) h
theorem clUp_yes{a b k:Nat}(ha:a<256)(hb:b<256)(hk:k<8)(h:(bits .and .i64 ((b:Int)/2 ^ k) 1==1)=true):bits .xor .i64 ((Gf.clUp a b k:Nat):Int) (wrap64 ((a:Int)*2 ^ k))=((Gf.clUp a b (k+1):Nat):Int):=by
 rw[i64_bit b k (by omega)]at h;have hl:=mul_pow_lt (show a<=255 by omega) (show k<=7 by omega) (by decide);rw[i64_shl a k hl,i64_xor_nat _ _ (Gf.clUp_lt a b k ha (by omega)) (by rw[Nat.shiftLeft_eq];exact hl)];simp only[Gf.clUp];rw[if_pos h]
theorem clUp_no{a b k:Nat}(hb:b<256)(h:(bits .and .i64 ((b:Int)/2 ^ k) 1==1)=false):Gf.clUp a b k=Gf.clUp a b (k+1):=by
 rw[i64_bit b k (by omega)]at h;simp[Gf.clUp,h]
theorem redUp_yes{p k:Nat}(hp:p<32768)(hk:k<7)(h:(bits .and .i64 ((Gf.redUp p k:Nat)/2 ^ (14 - k):Int) 1==1)=true):bits .xor .i64 ((Gf.redUp p k:Nat):Int) (wrap64 (285*2 ^ (14 - k - 8)))=((Gf.redUp p (k+1):Nat):Int):=by
 have hr:=Gf.redUp_lt p k hp (by omega);rw[i64_bit _ _ hr]at h;have hl:=mul_pow_lt (Nat.le_refl 285) (show 14 - k - 8<=6 by omega) (by decide);have e:=i64_shl 285 (14 - k - 8) hl;rw[show((285:Nat):Int)=285 from rfl]at e;rw[e,i64_xor_nat _ _ hr (by rw[Nat.shiftLeft_eq];exact hl)];simp only[Gf.redUp];rw[if_pos h]
theorem redUp_no{p k:Nat}(hp:p<32768)(hk:k<7)(h:(bits .and .i64 ((Gf.redUp p k:Nat)/2 ^ (14 - k):Int) 1==1)=false):Gf.redUp p k=Gf.redUp p (k+1):=by
 have hr:=Gf.redUp_lt p k hp (by omega);rw[i64_bit _ _ hr]at h;simp[Gf.redUp,h]
theorem refMul_any(a b:Gf.F)(w:World):
 Calls Tryz.prog 150 #[.int .u8 (a.toNat:Int),.int .u8 (b.toNat:Int)] w fun e w'=>e=.returned (.int .u8 ((Gf.mul a b).toNat:Int))/\w'=w:=by
 have hax:=a.isLt;have hbx:=b.isLt;go_enter Tryz.func150,Tryz.ntmps150;go_wp2_with fail
 go_loop [5,6] (fun s t=>∃ k:Nat,k<=8/\t=.int .i64 k/\s=.int .i64 ((Gf.clUp a.toNat b.toNat k:Nat):Int)) (fun _ t=>8 - (intOf t).toNat)
 case atStart=>exact⟨0,by omega,rfl,rfl⟩
 case round=>
  obtain⟨k,hk,rfl,rfl⟩:=hrel;have hcl:=Gf.clUp_lt a.toNat b.toNat k hax hk;by_cases hlt:k<8
  ·go_wp2
   ·have HY:=clUp_yes hax hbx hlt (by assumption)
    exact⟨⟨k+1,by omega,by go_num,by rw[HY]⟩,by simp[intOf];omega⟩
   ·have HY:=clUp_no (a:=a.toNat) hbx (by assumption)
    exact⟨⟨k+1,by omega,by go_num,by rw[HY]⟩,by simp[intOf];omega⟩
  ·obtain rfl:k=8:=by omega
   go_wp2_with fail
   go_loop [5,7] (fun s t=>∃ k:Nat,k<=7/\t=.int .i64 (14 - (k:Int))/\s=.int .i64 ((Gf.redUp (Gf.clUp a.toNat b.toNat 8) k:Nat):Int)) (fun _ t=>(intOf t).toNat)
   case atStart=>exact⟨0,by omega,rfl,rfl⟩
   case round=>
    obtain⟨k,hk,rfl,rfl⟩:=hrel;have hrd:=Gf.redUp_lt (Gf.clUp a.toNat b.toNat 8) k hcl hk;by_cases hlt2:k<7
    ·go_wp2
     ·have HY:=redUp_yes hcl hlt2 (by assumption)
      exact⟨⟨k+1,by omega,congrArg (Value.int .i64) (by omega),by rw[HY]⟩,by simp[intOf];omega⟩
     ·have HY:=redUp_no hcl hlt2 (by assumption)
      exact⟨⟨k+1,by omega,congrArg (Value.int .i64) (by omega),by rw[HY]⟩,by simp[intOf];omega⟩
    ·obtain rfl:k=7:=by omega
     have HR:Hid (Gf.redUp (Gf.clUp a.toNat b.toNat 8) 7=(Gf.mul a b).toNat):=Gf.refMul_eq a b;have hm:=(Gf.mul a b).isLt;go_wp2;go_ret;exact⟨ret_int (by rw[HR.out];omega),rfl⟩
theorem over_any(a:Gf.F)(ha:a≠0)(w:World):
 Calls Tryz.prog 149 #[.int .u8 (a.toNat:Int)] w fun e w'=>e=.returned (.int .u8 ((Gf.inv a).toNat:Int))/\w'=w:=by
 have HA:Hid (a≠0):=ha;clear ha;have hil:=(Gf.inv a).isLt;have hip:=Gf.inv_pos a HA.out;go_enter Tryz.func149,Tryz.ntmps149;go_wp2_with fail
 go_loop [3] (fun t=>∃ k:Nat,1<=k/\k<=(Gf.inv a).toNat/\t=.int .i64 k) (fun t=>256 - (intOf t).toNat)
 case atStart=>exact⟨1,by omega,by omega,rfl⟩
 case round=>
  obtain⟨k,hk1,hk,rfl⟩:=hrel;have hk8:k<256:=by omega
  have hmb:Calls Tryz.prog 150 #[.int .u8 (a.toNat:Int),.int .u8 (k:Int)] w fun e w'=>e=.returned (.int .u8 ((Gf.mul a (BitVec.ofNat 8 k)).toNat:Int))/\w'=w:=by
   have h:=refMul_any a (BitVec.ofNat 8 k) w;rw[BitVec.toNat_ofNat,Nat.mod_eq_of_lt (by omega)]at h;exact h
  have HMB:Hid (Calls Tryz.prog 150 #[.int .u8 (a.toNat:Int),.int .u8 (k:Int)] w fun e w'=>e=.returned (.int .u8 ((Gf.mul a (BitVec.ofNat 8 k)).toNat:Int))/\w'=w):=hmb;clear hmb;by_cases e:k=(Gf.inv a).toNat
  ·have ht:(((Gf.mul a (BitVec.ofNat 8 k)).toNat:Int)==1)=true:=by rw[Gf.toNat_one,e];exact Gf.over_all a HA.out
   have HE:Hid (k=(Gf.inv a).toNat):=e;clear e;go_wp2_with (go_at_call 150;refine HMB.out.mono ?_;rintro e w' ⟨rfl,rfl⟩);go_ret;exact⟨ret_int (by rw[<- HE.out]),rfl⟩
  ·have ht:(((Gf.mul a (BitVec.ofNat 8 k)).toNat:Int)==1)=false:=by
    rw[Gf.toNat_one,<- Bool.not_eq_true];intro h;have:=(Gf.over_found a k h).2;apply e;rw[<- this,BitVec.toNat_ofNat,Nat.mod_eq_of_lt (by omega)]
   have hlt:k<(Gf.inv a).toNat:=by omega
   clear e;go_wp2_with (go_at_call 150;refine HMB.out.mono ?_;rintro e w' ⟨rfl,rfl⟩)
   go_round
   case rel=>exact⟨k+1,by omega,by omega,by go_num⟩
   case measure=>simp[intOf];omega
theorem power_any(x:Gf.F)(n:Nat)(w:World)(hn:n<=1000):
 Calls Tryz.prog 148 #[.int .u8 (x.toNat:Int),.int .i64 n] w fun e w'=>e=.returned (.int .u8 ((Gf.pow x n).toNat:Int))/\w'=w:=by
 go_enter Tryz.func148,Tryz.ntmps148;go_wp2_with fail
 go_loop [1,5] (fun t s=>∃ k:Nat,k<=n/\t=.int .i64 ((n:Int) - (k:Int))/\s=.int .u8 ((Gf.pow x k).toNat:Int)) (fun t _=>(intOf t).toNat)
 case atStart=>exact⟨0,by omega,congrArg (Value.int .i64) (by omega),rfl⟩
 case round=>
  obtain⟨k,hk,rfl,rfl⟩:=hrel;by_cases hlt:k<n
  ·go_wp2_with (go_at_call 150;refine(refMul_any _ _ _).mono ?_;rintro e w' ⟨rfl,rfl⟩)
   exact⟨⟨k+1,by omega,congrArg (Value.int .i64) (by omega),rfl⟩,by simp[intOf];omega⟩
  ·obtain rfl:k=n:=by omega
   go_wp2;go_ret;exact⟨rfl,rfl⟩
end Go.Proofs.YtjabhnhejbhgjaaGreatDoor
