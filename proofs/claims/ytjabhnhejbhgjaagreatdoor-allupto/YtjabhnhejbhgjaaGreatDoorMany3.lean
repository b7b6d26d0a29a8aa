import Derived.Test.YtjabhnhejbhgjaaGreatDoorMany1
import Derived.WalkKit
import Derived.Laws.BitsAllLaws
set_option maxRecDepth 100000
set_option maxHeartbeats 8000000
namespace Go.Proofs.YtjabhnhejbhgjaaGreatDoor.Gf
theorem and128:∀ x:F,(bits BinOp.and IntKind.u8 (x.toNat:Int) 128 != 0)=x.msb:=by decide +kernel
theorem and1:∀ x:F,(bits BinOp.and IntKind.u8 (x.toNat:Int) 1 != 0)=x.getLsbD 0:=by decide +kernel
theorem shl1:∀ x:F,(x.toNat:Int)*(2:Int)%(256:Int)=((x <<< 1).toNat:Int):=by decide +kernel
theorem shr1:∀ x:F,(x.toNat:Int)/(2:Int)=((x >>> 1).toNat:Int):=by decide +kernel
theorem xor29:∀ x:F,bits BinOp.xor IntKind.u8 ((x.toNat:Int)*2%256) 29=((x <<< 1 ^^^ 29#8).toNat:Int):=by decide +kernel
theorem xorF(x y:F):bits BinOp.xor IntKind.u8 (x.toNat:Int) (y.toNat:Int)=((x ^^^ y).toNat:Int):=by
 rw[u8_xor_nat _ _ x.isLt y.isLt,BitVec.toNat_xor]
theorem bne0(x:F):((x.toNat:Int) != 0)=(x != 0):=by
 rw[Bool.eq_iff_iff,bne_iff_ne,bne_iff_ne];constructor
 ·intro h e;apply h;rw[e];rfl
 ·intro h e;apply h;apply BitVec.eq_of_toNat_eq;simpa using e
theorem xt_hi(x:F)(h:(bits BinOp.and IntKind.u8 (x.toNat:Int) 128 != 0)=true):bits BinOp.xor IntKind.u8 ((x.toNat:Int)*2%256) 29=((xt x).toNat:Int):=by
 rw[and128]at h;rw[xor29];simp[xt,h]
theorem xt_lo(x:F)(h:(bits BinOp.and IntKind.u8 (x.toNat:Int) 128 != 0)=false):(x.toNat:Int)*2%256=((xt x).toNat:Int):=by
 rw[and128]at h;rw[shl1];simp[xt,h]
theorem mulN_step{k:Nat}{x y p M:F}(h:mulN k x y p=M)(hk:y.toNat<2 ^ k)(hy:((y.toNat:Int) != 0)=true):
 ∃ k',mulN k' (xt x) (y >>> 1) (if y.getLsbD 0 then p ^^^ x else p)=M/\(y >>> 1).toNat<2 ^ k'/\(y >>> 1).toNat<y.toNat:=by
 rw[bne_iff_ne]at hy
 cases k with
 | zero=>simp at hk;omega
 | succ k=>
  refine⟨k,h,?_,?_⟩
  ·rw[Nat.pow_succ]at hk;simp[Nat.shiftRight_eq_div_pow];omega
  ·simp[Nat.shiftRight_eq_div_pow];omega
theorem mulN_set{k:Nat}{x y p M:F}(h:mulN k x y p=M)(hk:y.toNat<2 ^ k)(hy:((y.toNat:Int) != 0)=true)(hb:(bits BinOp.and IntKind.u8 (y.toNat:Int) 1 != 0)=true):
 ∃ k',mulN k' (xt x) (y >>> 1) (p ^^^ x)=M/\(y >>> 1).toNat<2 ^ k'/\(y >>> 1).toNat<y.toNat:=by
 rw[and1]at hb;have:=mulN_step h hk hy;rwa [hb]at this
theorem mulN_clear{k:Nat}{x y p M:F}(h:mulN k x y p=M)(hk:y.toNat<2 ^ k)(hy:((y.toNat:Int) != 0)=true)(hb:(bits BinOp.and IntKind.u8 (y.toNat:Int) 1 != 0)=false):
 ∃ k',mulN k' (xt x) (y >>> 1) p=M/\(y >>> 1).toNat<2 ^ k'/\(y >>> 1).toNat<y.toNat:=by
 rw[and1]at hb;have:=mulN_step h hk hy;rwa [hb]at this
theorem mulN_end{k:Nat}{x y p M:F}(h:mulN k x y p=M)(hy:((y.toNat:Int) != 0)=false):p=M:=by
 rw[bne0]at hy;have e:y=0:=by simpa using hy
 rw[e,mulN_b0]at h;exact h
theorem bounds_u8x{a:Int}(h:(Lit.int .u8 a).wf=true):0<=a/\a<256:=by
 have h1:IntKind.u8.min=0:=by decide
 have h2:IntKind.u8.max=255:=by decide
 simp[Lit.wf,h1,h2]at h;omega
theorem ofByte(a:Int)(h:(Lit.int .u8 a).wf=true):∃ x:F,a=(x.toNat:Int):=by
 have hb:0<=a/\a<256:=by
  exact bounds_u8x h
 refine⟨BitVec.ofNat 8 a.toNat,?_⟩;rw[BitVec.toNat_ofNat,Nat.mod_eq_of_lt (by omega)];omega
end Go.Proofs.YtjabhnhejbhgjaaGreatDoor.Gf
namespace Go.Proofs.YtjabhnhejbhgjaaGreatDoor.Gf
def add(x y:F):F:=x ^^^ y
theorem addF(x y:F):bits BinOp.xor IntKind.u8 (x.toNat:Int) (y.toNat:Int)=((add x y).toNat:Int):=xorF x y
def hit(a:F)(j:Nat):Bool:=mul a (BitVec.ofNat 8 j)==1
def cnt(a:F):Nat->Nat
 | 0=>0
 | k+1=>cnt a k+(if hit a k then 1 else 0)
theorem toNat_one(x:F):(((x.toNat:Int))==1)=(x==1):=by
 rw[Bool.eq_iff_iff,beq_iff_eq,beq_iff_eq];constructor
 ·intro h;apply BitVec.eq_of_toNat_eq;exact(by omega:x.toNat=1)
 ·intro h;rw[h];rfl
theorem cnt_yes(a:F)(k:Nat)(h:(((mul a (BitVec.ofNat 8 k)).toNat:Int)==1)=true):((cnt a k:Nat):Int)+1=(cnt a (k+1):Nat):=by
 rw[toNat_one]at h;have e:hit a k=true:=h;simp[cnt,e]
theorem cnt_no(a:F)(k:Nat)(h:(((mul a (BitVec.ofNat 8 k)).toNat:Int)==1)=false):((cnt a k:Nat):Int)=(cnt a (k+1):Nat):=by
 rw[toNat_one]at h;have e:hit a k=false:=h;simp[cnt,e]
theorem cnt_le(a:F)(k:Nat):cnt a k<=k:=by
 induction k with
 | zero=>exact Nat.le_refl _
 | succ k ih=>simp only[cnt];split<;>omega
def cntAt(c:Nat):Nat->Nat
 | 0=>0
 | k+1=>cntAt c k+(if k=c then 1 else 0)
theorem cntAt_eq(c k:Nat):cntAt c k=if c<k then 1 else 0:=by
 induction k with
 | zero=>rfl
 | succ k ih=>simp only[cntAt,ih];split<;>split<;>(try split)<;>omega
theorem hit_iff(a:F)(ha:a≠0)(j:Nat)(hj:j<256):hit a j=true↔j=(inv a).toNat:=by
 unfold hit;rw[beq_iff_eq];constructor
 ·intro h
  have:=mul_left_cancel a _ (inv a) ha (by rw[h,mul_inv a ha]);rw[<- this,BitVec.toNat_ofNat,Nat.mod_eq_of_lt (by omega)]
 ·intro h
  rw[h,BitVec.ofNat_toNat,BitVec.setWidth_eq,mul_inv a ha]
theorem cnt_ne(a:F)(ha:a≠0)(k:Nat)(hk:k<=256):cnt a k=cntAt (inv a).toNat k:=by
 induction k with
 | zero=>rfl
 | succ k ih=>
  simp only[cnt,cntAt];rw[ih (by omega)];have:=hit_iff a ha k (by omega);by_cases h:hit a k=true
  ·rw[if_pos h,if_pos (this.1 h)]
  ·rw[if_neg h,if_neg (fun e=>h (this.2 e))]
theorem cnt_one(a:F)(ha:a≠0):cnt a 256=1:=by
 rw[cnt_ne a ha 256 (by omega),cntAt_eq,if_pos (inv a).isLt]
theorem cnt_zero:cnt 0 256=0:=by
 have:∀ k,cnt 0 k=0:=by
  intro k
  induction k with
  | zero=>rfl
  | succ k ih=>
   simp only[cnt];rw[ih,if_neg];unfold hit;rw[zero_mul];decide
 exact this 256
end Go.Proofs.YtjabhnhejbhgjaaGreatDoor.Gf
