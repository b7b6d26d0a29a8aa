import Derived.Test.YtjabhnhejbhgjaaGreatDoorRows
import Derived.Test.YtjabhnhejbhgjaaGreatDoorMany3
import Derived.WalkKit
import Derived.WalkSpells
import Derived.WalkLawsBesides
set_option maxRecDepth 100000
set_option maxHeartbeats 8000000
namespace Go.Proofs.YtjabhnhejbhgjaaGreatDoor
open Go.RowKit
theorem ret_int{k:IntKind}{a b:Int}(h:a=b):Ending.returned (.int k a)=.returned (.int k b):=by rw[h]
theorem timesX_any(x:Gf.F)(w:World):
 Calls Tryz.prog 151 #[.int .u8 (x.toNat:Int)] w fun e w'=>e=.returned (.int .u8 ((Gf.xt x).toNat:Int))/\w'=w:=by
 go_enter Tryz.func151,Tryz.ntmps151;go_wp2
 ·go_ret
  exact⟨ret_int (Gf.xt_hi x (by assumption)),rfl⟩
 ·go_ret
  exact⟨ret_int (Gf.xt_lo x (by assumption)),rfl⟩
theorem fieldMul_any(a b:Gf.F)(w:World):
 Calls Tryz.prog 140 #[.int .u8 (a.toNat:Int),.int .u8 (b.toNat:Int)] w fun e w'=>e=.returned (.int .u8 ((Gf.mul a b).toNat:Int))/\w'=w:=by
 go_enter Tryz.func140,Tryz.ntmps140;go_wp2
 go_loop [0,1,5] (fun s t u=>∃(x y p:Gf.F) (k:Nat),s=.int .u8 (x.toNat:Int)/\t=.int .u8 (y.toNat:Int)/\u=.int .u8 (p.toNat:Int)/\Gf.mulN k x y p=Gf.mul a b/\y.toNat<2 ^ k) (fun _ t _=>(intOf t).toNat)
 case atStart=>exact⟨a,b,0,8,rfl,rfl,rfl,rfl,b.isLt⟩
 case round=>
  obtain⟨x,y,p,k,rfl,rfl,rfl,hm,hk⟩:=hrel;have HM:Hid (Gf.mulN k x y p=Gf.mul a b):=hm;clear hm;have HK:Hid (y.toNat<2 ^ k):=hk;clear hk;go_wp2_with (go_at_call 151;refine(timesX_any _ _).mono ?_;rintro e w' ⟨rfl,rfl⟩)
  ·obtain⟨k',h1,h2,h3⟩:=Gf.mulN_set HM.out HK.out (by assumption) (by assumption)
   go_round
   case rel=>exact⟨_,_,_,k',rfl,by rw[Gf.shr1],by rw[Gf.xorF],h1,h2⟩
   case measure=>simp[intOf,Nat.shiftRight_eq_div_pow]at h3 ⊢;omega
  ·obtain⟨k',h1,h2,h3⟩:=Gf.mulN_clear HM.out HK.out (by assumption) (by assumption)
   go_round
   case rel=>exact⟨_,_,_,k',rfl,by rw[Gf.shr1],rfl,h1,h2⟩
   case measure=>simp[intOf,Nat.shiftRight_eq_div_pow]at h3 ⊢;omega
  ·go_ret
   exact⟨ret_int (by rw[Gf.mulN_end HM.out (by assumption)]),rfl⟩
end Go.Proofs.YtjabhnhejbhgjaaGreatDoor
