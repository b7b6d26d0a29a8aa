import Derived.WalkKit
set_option maxRecDepth 100000
set_option maxHeartbeats 8000000
namespace Go.Proofs.YtjabhnhejbhgjaaGreatDoor.Gf
abbrev F:=BitVec 8
def xt(a:F):F:=if a.msb then(a <<< 1) ^^^ 29#8 else a <<< 1
def mulN:Nat->F->F->F->F
 | 0,_,_,p=>p
 | n+1,a,b,p=>mulN n (xt a) (b >>> 1) (if b.getLsbD 0 then p ^^^ a else p)
def mul(a b:F):F:=mulN 8 a b 0
def xtN:Nat->F->F
 | 0,a=>a
 | k+1,a=>xt (xtN k a)
def logT:List Nat:=[
 0,0,1,25,2,50,26,198,3,223,51,238,27,104,199,75,
 4,100,224,14,52,141,239,129,28,193,105,248,200,8,76,113,
 5,138,101,47,225,36,15,33,53,147,142,218,240,18,130,69,
 29,181,194,125,106,39,249,185,201,154,9,120,77,228,114,166,
 6,191,139,98,102,221,48,253,226,152,37,179,16,145,34,136,
 54,208,148,206,143,150,219,189,241,210,19,92,131,56,70,64,
 30,66,182,163,195,72,126,110,107,58,40,84,250,133,186,61,
 202,94,155,159,10,21,121,43,78,212,229,172,115,243,167,87,
 7,112,192,247,140,128,99,13,103,74,222,237,49,197,254,24,
 227,165,153,119,38,184,180,124,17,68,146,217,35,32,137,46,
 55,63,209,91,149,188,207,205,144,135,151,178,220,252,190,97,
 242,86,211,171,20,42,93,158,132,60,57,83,71,109,65,162,
 31,45,67,216,183,123,164,118,196,23,73,236,127,12,111,246,
 108,161,59,82,41,157,85,170,251,96,134,177,187,204,62,90,
 203,89,95,176,156,169,160,81,11,245,22,235,122,117,44,215,
 79,174,213,233,230,231,173,232,116,214,244,234,168,80,88,175]
theorem xt_zero:xt 0=0:=by decide +kernel
theorem xt_xor(x y:F):xt (x ^^^ y)=xt x ^^^ xt y:=by
 unfold xt;rw[BitVec.msb_xor,BitVec.shiftLeft_xor_distrib];cases x.msb<;>cases y.msb<;>simp
 ·rw[BitVec.xor_assoc]
 ·rw[BitVec.xor_assoc,BitVec.xor_assoc,BitVec.xor_comm (y <<< 1)]
 ·rw[BitVec.xor_assoc,BitVec.xor_comm (29#8) (y <<< 1 ^^^ 29#8),BitVec.xor_assoc,BitVec.xor_self,BitVec.xor_zero]
theorem xor_self_zero(x:F):x ^^^ x=0:=BitVec.xor_self
theorem mulN_acc(n:Nat):∀ a b p:F,mulN n a b p=p ^^^ mulN n a b 0:=by
 induction n with
 | zero=>intro a b p;simp[mulN]
 | succ n ih=>
  intro a b p;simp only[mulN];rw[ih _ _ (if b.getLsbD 0 then p ^^^ a else p),ih _ _ (if b.getLsbD 0 then 0 ^^^ a else 0)];split
  ·rw[BitVec.xor_assoc];simp
  ·simp
theorem mulN_b0(n:Nat):∀ a p:F,mulN n a 0 p=p:=by
 induction n with
 | zero=>intro a p;rfl
 | succ n ih=>intro a p;simp only[mulN];rw[show(0:F) >>> 1=0 by decide,ih];simp
theorem mulN_xt(n:Nat):∀ a b:F,mulN n (xt a) b 0=xt (mulN n a b 0):=by
 induction n with
 | zero=>intro a b;exact xt_zero.symm
 | succ n ih=>
  intro a b;simp only[mulN];rw[mulN_acc n _ _ (if b.getLsbD 0 then 0 ^^^ xt a else 0),mulN_acc n _ _ (if b.getLsbD 0 then 0 ^^^ a else 0),ih,xt_xor];split
  ·simp
  ·rw[xt_zero]
theorem mul_xt(a b:F):mul (xt a) b=xt (mul a b):=mulN_xt 8 a b
theorem xtN_xor(k:Nat)(x y:F):xtN k (x ^^^ y)=xtN k x ^^^ xtN k y:=by
 induction k with
 | zero=>rfl
 | succ k ih=>simp only[xtN];rw[ih,xt_xor]
theorem xtN_zero(k:Nat):xtN k 0=0:=by
 induction k with
 | zero=>rfl
 | succ k ih=>simp only[xtN];rw[ih,xt_zero]
theorem xtN_add(i j:Nat)(a:F):xtN (i+j) a=xtN i (xtN j a):=by
 induction i with
 | zero=>simp[xtN]
 | succ i ih=>rw[show i+1+j=(i+j)+1 by omega];simp only[xtN];rw[ih]
theorem mul_xtN(k:Nat)(a b:F):mul (xtN k a) b=xtN k (mul a b):=by
 induction k with
 | zero=>rfl
 | succ k ih=>simp only[xtN];rw[mul_xt,ih]
theorem one_mul(b:F):mul 1 b=b:=by revert b;decide +kernel
theorem zero_mul(b:F):mul 0 b=0:=by revert b;decide +kernel
theorem mul_zero(a:F):mul a 0=0:=by revert a;decide +kernel
theorem log_all:∀ a:F,a=0∨xtN (logT.getD a.toNat 0) 1=a:=by decide +kernel
theorem log_of(a:F)(h:a≠0):∃ k,a=xtN k 1:=by
 rcases log_all a with h'|h'
 ·exact absurd h' h
 ·exact⟨_,h'.symm⟩
theorem pow_mul(i:Nat)(b:F):mul (xtN i 1) b=xtN i b:=by rw[mul_xtN,one_mul]
theorem mul_comm(a b:F):mul a b=mul b a:=by
 by_cases ha:a=0
 ·rw[ha,zero_mul,mul_zero]
 by_cases hb:b=0
 ·rw[hb,zero_mul,mul_zero]
 obtain⟨i,rfl⟩:=log_of a ha;obtain⟨j,rfl⟩:=log_of b hb;rw[pow_mul,pow_mul,<- xtN_add,<- xtN_add,Nat.add_comm]
theorem mul_assoc(a b c:F):mul (mul a b) c=mul a (mul b c):=by
 by_cases ha:a=0
 ·rw[ha,zero_mul,zero_mul,zero_mul]
 by_cases hb:b=0
 ·rw[hb,mul_zero,zero_mul,mul_zero]
 obtain⟨i,rfl⟩:=log_of a ha;obtain⟨j,rfl⟩:=log_of b hb;rw[pow_mul,<- xtN_add,pow_mul,pow_mul,pow_mul,<- xtN_add]
theorem mul_xor(a b c:F):mul a (b ^^^ c)=mul a b ^^^ mul a c:=by
 by_cases ha:a=0
 ·rw[ha,zero_mul,zero_mul,zero_mul];rfl
 obtain⟨i,rfl⟩:=log_of a ha;rw[pow_mul,pow_mul,pow_mul,xtN_xor]
theorem xor_mul(a b c:F):mul (a ^^^ b) c=mul a c ^^^ mul b c:=by
 rw[mul_comm,mul_xor,mul_comm c a,mul_comm c b]
theorem mul_one(a:F):mul a 1=a:=by rw[mul_comm,one_mul]
def invN:Nat->F->F->F
 | 0,i,_=>i
 | n+1,i,p=>invN n (mul i (mul p p)) (mul p p)
def inv(a:F):F:=invN 7 1 a
theorem mul_inv_all:∀ a:F,a=0∨mul a (inv a)=1:=by decide +kernel
theorem mul_inv(a:F)(h:a≠0):mul a (inv a)=1:=by
 rcases mul_inv_all a with h'|h'
 ·exact absurd h' h
 ·exact h'
theorem mul_left_cancel(a b c:F)(h:a≠0)(e:mul a b=mul a c):b=c:=by
 have h1:mul (inv a) (mul a b)=mul (inv a) (mul a c):=by rw[e]
 rw[<- mul_assoc,<- mul_assoc,mul_comm (inv a) a,mul_inv a h,one_mul,one_mul]at h1;exact h1
theorem mul_eq_zero(a b:F)(h:mul a b=0):a=0∨b=0:=by
 by_cases ha:a=0
 ·exact Or.inl ha
 ·exact Or.inr (mul_left_cancel a b 0 ha (by rw[h,mul_zero]))
theorem one_ne_zero:(1:F)≠0:=by decide
end Go.Proofs.YtjabhnhejbhgjaaGreatDoor.Gf
namespace Go.Proofs.YtjabhnhejbhgjaaGreatDoor.Gf
def ev:List F->F->F
 | [],_=>0
 | a :: c,p=>a ^^^ mul p (ev c p)
def Deg(k:Nat)(f:F->F):Prop:=∃ c:List F,c.length=k/\∀ p,f p=ev c p
theorem xor4(a b c d:F):(a ^^^ b) ^^^ (c ^^^ d)=(a ^^^ c) ^^^ (b ^^^ d):=by
 rw[BitVec.xor_assoc,BitVec.xor_assoc];congr 1;rw[<- BitVec.xor_assoc,<- BitVec.xor_assoc,BitVec.xor_comm b c]
theorem xor_eq_zero{a b:F}(h:a ^^^ b=0):a=b:=by
 have:(a ^^^ b) ^^^ b=0 ^^^ b:=by rw[h]
 rw[BitVec.xor_assoc,BitVec.xor_self,BitVec.xor_zero]at this;exact this.trans (BitVec.zero_xor)
theorem ev_add(c:List F):∀(d:List F) (p:F),c.length=d.length->ev (List.zipWith (· ^^^ ·) c d) p=ev c p ^^^ ev d p:=by
 induction c with
 | nil=>intro d p h;cases d with
  | nil=>simp only[List.zipWith_nil_left,ev];decide
  | cons b d=>simp at h
 | cons a c ih=>intro d p h;cases d with
  | nil=>simp at h
  | cons b d=>
   simp only[List.zipWith_cons_cons,ev];rw[ih d p (by simpa using h),mul_xor,xor4]
theorem ev_smul(a:F)(c:List F)(p:F):ev (c.map (mul a)) p=mul a (ev c p):=by
 induction c with
 | nil=>exact(mul_zero a).symm
 | cons b c ih=>simp only[List.map_cons,ev];rw[ih,mul_xor,<- mul_assoc,mul_comm p a,mul_assoc]
theorem ev_snoc(c:List F)(p:F):ev (c++[0]) p=ev c p:=by
 induction c with
 | nil=>simp only[List.nil_append,ev];rw[mul_zero];rfl
 | cons b c ih=>simp only[List.cons_append,ev];rw[ih]
theorem Deg.add{k:Nat}{f g:F->F}(hf:Deg k f)(hg:Deg k g):Deg k (fun p=>f p ^^^ g p):=by
 obtain⟨c,hc,ec⟩:=hf;obtain⟨d,hd,ed⟩:=hg;exact⟨List.zipWith (· ^^^ ·) c d,by simp[hc,hd],fun p=>by show f p ^^^ g p=_;rw[ec,ed,ev_add c d p (hc.trans hd.symm)]⟩
theorem Deg.smul{k:Nat}{f:F->F}(a:F)(hf:Deg k f):Deg k (fun p=>mul a (f p)):=by
 obtain⟨c,hc,ec⟩:=hf;exact⟨c.map (mul a),by simp[hc],fun p=>by show mul a (f p)=_;rw[ec,ev_smul]⟩
theorem Deg.up{k:Nat}{f:F->F}(hf:Deg k f):Deg (k+1) f:=by
 obtain⟨c,hc,ec⟩:=hf;exact⟨c++[0],by simp[hc],fun p=>by rw[ec,ev_snoc]⟩
theorem Deg.lin{k:Nat}{f:F->F}(a:F)(hf:Deg k f):Deg (k+1) (fun p=>mul (f p) (p ^^^ a)):=by
 obtain⟨c,hc,ec⟩:=hf;have h1:Deg (k+1) (fun p=>mul p (f p)):=⟨0 :: c,by simp[hc],fun p=>by simp only[ev];rw[ec];simp⟩;have h2:=(Deg.smul a ⟨c,hc,ec⟩).up;obtain⟨d,hd,ed⟩:=h1.add h2;exact⟨d,hd,fun p=>by show mul (f p) (p ^^^ a)=_;rw[<- ed];show _=mul p (f p) ^^^ mul a (f p);rw[mul_xor,mul_comm (f p) p,mul_comm (f p) a]⟩
theorem Deg.one:Deg 1 (fun _=>1):=⟨[1],rfl,fun p=>by simp only[ev];rw[mul_zero];rfl⟩
theorem Deg.zero(k:Nat):Deg k (fun _=>0):=by
 induction k with
 | zero=>exact⟨[],rfl,fun _=>rfl⟩
 | succ k ih=>exact ih.up
theorem xor_id(A B C D a:F):((C ^^^ D) ^^^ (A ^^^ B)) ^^^ (a ^^^ D)=a ^^^ ((A ^^^ B) ^^^ C):=by
 apply BitVec.eq_of_getLsbD_eq;intro i _;simp only[BitVec.getLsbD_xor];cases A.getLsbD i<;>cases B.getLsbD i<;>cases C.getLsbD i<;>cases D.getLsbD i<;>cases a.getLsbD i<;>rfl
theorem divide(r:F):∀ c:List F,∀ a:F,∃ q:List F,q.length=c.length/\∀ p,ev (a :: c) p=mul (p ^^^ r) (ev q p) ^^^ ev (a :: c) r:=by
 intro c
 induction c with
 | nil=>intro a;exact⟨[],rfl,fun p=>by simp only[ev];rw[mul_zero,mul_zero,mul_zero];simp⟩
 | cons b c ih=>
  intro a;obtain⟨q,hq,eq⟩:=ih b;refine⟨ev (b :: c) r :: q,by simp[hq],fun p=>?_⟩;have e1:ev (a :: b :: c) p=a ^^^ mul p (ev (b :: c) p):=rfl;have e2:ev (a :: b :: c) r=a ^^^ mul r (ev (b :: c) r):=rfl;have e3:ev (ev (b :: c) r :: q) p=ev (b :: c) r ^^^ mul p (ev q p):=rfl;rw[e1,e2,e3,eq p];generalize ev (b :: c) r=s;generalize ev q p=t;have e4:mul p (mul (p ^^^ r) t ^^^ s)=(mul p (mul p t) ^^^ mul p (mul r t)) ^^^ mul p s:=by rw[mul_xor,xor_mul,mul_xor]
  have e5:mul (p ^^^ r) (s ^^^ mul p t)=(mul p s ^^^ mul r s) ^^^ (mul p (mul p t) ^^^ mul p (mul r t)):=by
   rw[mul_xor,xor_mul,xor_mul,<- mul_assoc r p t,mul_comm r p,mul_assoc p r t]
  rw[e4,e5];exact(xor_id _ _ _ _ _).symm
theorem roots:∀(xs:List F) (c:List F),c.length=xs.length->xs.Nodup->(∀ x ∈ xs,ev c x=0)->∀ p,ev c p=0:=by
 intro xs
 induction xs with
 | nil=>intro c hc _ _ p;cases c with
  | nil=>rfl
  | cons a c=>simp at hc
 | cons r xs ih=>
  intro c hc hn hz p
  cases c with
  | nil=>simp at hc
  | cons a c=>
   obtain⟨q,hq,eq⟩:=divide r c a;have h0:ev (a :: c) r=0:=hz r (List.mem_cons_self ..);rw[h0]at eq
   have hq0:∀ p,ev q p=0:=by
    refine ih q (by rw[hq];simpa using hc) (List.nodup_cons.1 hn).2 (fun x hx=>?_);have h1:=hz x (List.mem_cons_of_mem _ hx);rw[eq x]at h1;have h2:mul (x ^^^ r) (ev q x)=0:=by simpa using h1
    rcases mul_eq_zero _ _ h2 with h3|h3
    ·exact absurd (xor_eq_zero h3 ▸ hx) (List.nodup_cons.1 hn).1
    ·exact h3
   rw[eq p,hq0 p,mul_zero];decide
def Apart(X:Nat->F)(k:Nat):Prop:=∀ i j,i<k->j<k->X i=X j->i=j
theorem nodup_of_apart{X:Nat->F}{k:Nat}(h:Apart X k):((List.range k).map X).Nodup:=by
 rw[List.nodup_iff_pairwise_ne,List.pairwise_map];refine List.Pairwise.imp_of_mem ?_ List.nodup_range;intro a b ha hb hne e;exact hne (h a b (List.mem_range.1 ha) (List.mem_range.1 hb) e)
theorem Deg.unique{k:Nat}{f g:F->F}{X:Nat->F}(hf:Deg k f)(hg:Deg k g)(hX:Apart X k)(h:∀ i,i<k->f (X i)=g (X i))(p:F):f p=g p:=by
 obtain⟨c,hc,ec⟩:=hf.add hg;refine xor_eq_zero ?_;have:=roots ((List.range k).map X) c (by simp[hc]) (nodup_of_apart hX) (fun x hx=>?_) p
 ·rw[<- this,<- ec p]
 ·obtain⟨i,hi,rfl⟩:=List.mem_map.1 hx
  rw[<- ec];show f (X i) ^^^ g (X i)=0;rw[h i (List.mem_range.1 hi)];exact BitVec.xor_self
def prod(X:Nat->F)(i:Nat)(p:F):Nat->F
 | 0=>1
 | j+1=>if j=i then prod X i p j else mul (prod X i p j) (p ^^^ X j)
def wt(X:Nat->F)(k i:Nat)(p:F):F:=mul (prod X i p k) (inv (prod X i (X i) k))
def sum(g:Nat->F):Nat->F
 | 0=>0
 | n+1=>sum g n ^^^ g n
def lag(X Y:Nat->F)(k:Nat)(p:F):F:=sum (fun i=>mul (wt X k i p) (Y i)) k
theorem prod_zero{X:Nat->F}{i m:Nat}(hm:m≠i):∀ n,m<n->prod X i (X m) n=0:=by
 intro n
 induction n with
 | zero=>intro h;omega
 | succ n ih=>
  intro h;simp only[prod];by_cases e:n=i
  ·rw[if_pos e];exact ih (by omega)
  ·rw[if_neg e]
   by_cases e2:m=n
   ·rw[e2,BitVec.xor_self];exact mul_zero _
   ·rw[ih (by omega)];exact zero_mul _
theorem prod_ne{X:Nat->F}{i k:Nat}(hX:Apart X k)(hi:i<k):∀ n,n<=k->prod X i (X i) n≠0:=by
 intro n
 induction n with
 | zero=>intro _;exact one_ne_zero
 | succ n ih=>
  intro h;simp only[prod];by_cases e:n=i
  ·rw[if_pos e];exact ih (by omega)
  ·rw[if_neg e]
   intro h0;rcases mul_eq_zero _ _ h0 with h1|h1
   ·exact ih (by omega) h1
   ·exact e (hX i n hi (by omega) (xor_eq_zero h1)).symm
theorem wt_same{X:Nat->F}{k i:Nat}(hX:Apart X k)(hi:i<k):wt X k i (X i)=1:=mul_inv _ (prod_ne hX hi k (Nat.le_refl _))
theorem wt_other{X:Nat->F}{k i m:Nat}(hm:m<k)(hne:m≠i):wt X k i (X m)=0:=by
 unfold wt;rw[prod_zero hne k hm];exact zero_mul _
theorem sum_zero{g:Nat->F}:∀ n,(∀ i,i<n->g i=0)->sum g n=0:=by
 intro n
 induction n with
 | zero=>intro _;rfl
 | succ n ih=>intro h;simp only[sum];rw[ih (fun i hi=>h i (by omega)),h n (by omega)];decide
theorem sum_one{g:Nat->F}{m:Nat}:∀ n,m<n->(∀ i,i<n->i≠m->g i=0)->sum g n=g m:=by
 intro n
 induction n with
 | zero=>intro h;omega
 | succ n ih=>
  intro h hz;simp only[sum];by_cases e:m=n
  ·rw[sum_zero n (fun i hi=>hz i (by omega) (by omega)),e];exact BitVec.zero_xor
  ·rw[ih (by omega) (fun i hi hne=>hz i (by omega) hne),hz n (by omega) (by omega)];exact BitVec.xor_zero
theorem sum_congr{g h:Nat->F}:∀ n,(∀ i,i<n->g i=h i)->sum g n=sum h n:=by
 intro n
 induction n with
 | zero=>intro _;rfl
 | succ n ih=>intro e;simp only[sum];rw[ih (fun i hi=>e i (by omega)),e n (by omega)]
theorem lag_at{X Y:Nat->F}{k m:Nat}(hX:Apart X k)(hm:m<k):lag X Y k (X m)=Y m:=by
 unfold lag;rw[sum_one (m:=m) k hm]
 ·rw[wt_same hX hm,one_mul]
 ·intro i _ hne
  show mul (wt X k i (X m)) (Y i)=0;rw[wt_other hm (Ne.symm hne),zero_mul]
theorem lag_congr{X X' Y Y':Nat->F}{k:Nat}(hX:∀ i,i<k->X i=X' i)(hY:∀ i,i<k->Y i=Y' i)(p:F):lag X Y k p=lag X' Y' k p:=by
 unfold lag;refine sum_congr k (fun i hi=>?_)
 have hp:∀ q n,n<=k->prod X i q n=prod X' i q n:=by
  intro q n
  induction n with
  | zero=>intro _;rfl
  | succ n ih=>intro h;simp only[prod];rw[ih (by omega),hX n (by omega)]
 show mul (wt X k i p) (Y i)=mul (wt X' k i p) (Y' i);unfold wt;rw[hp p k (Nat.le_refl _),hp (X i) k (Nat.le_refl _),hX i hi,hY i hi]
theorem prod_deg(X:Nat->F)(i:Nat):∀ n,Deg (if i<n then n else n+1) (fun p=>prod X i p n):=by
 intro n
 induction n with
 | zero=>exact Deg.one
 | succ n ih=>
  by_cases e:n=i
  ·rw[if_pos (by omega)]
   rw[if_neg (by omega)]at ih;have:(fun p=>prod X i p (n+1))=fun p=>prod X i p n:=by funext p;simp only[prod];rw[if_pos e]
   rw[this];exact ih
  ·have h2:(fun p=>prod X i p (n+1))=fun p=>mul (prod X i p n) (p ^^^ X n):=by funext p;simp only[prod];rw[if_neg e]
   rw[h2];by_cases h:i<n
   ·rw[if_pos (by omega)]
    rw[if_pos h]at ih;exact ih.lin (X n)
   ·rw[if_neg (by omega)]
    rw[if_neg h]at ih;exact ih.lin (X n)
theorem wt_deg(X:Nat->F){k i:Nat}(hi:i<k):Deg k (wt X k i):=by
 have h:=prod_deg X i k;rw[if_pos hi]at h;have:=h.smul (inv (prod X i (X i) k));obtain⟨c,hc,ec⟩:=this;exact⟨c,hc,fun p=>by rw[<- ec];show mul _ _=mul _ _;rw[mul_comm]⟩
theorem sum_deg{k:Nat}{g:Nat->F->F}:∀ n,(∀ i,i<n->Deg k (g i))->Deg k (fun p=>sum (fun i=>g i p) n):=by
 intro n
 induction n with
 | zero=>intro _;exact Deg.zero k
 | succ n ih=>intro h;exact(ih (fun i hi=>h i (by omega))).add (h n (by omega))
theorem lag_deg(X Y:Nat->F)(k:Nat):Deg k (lag X Y k):=by
 refine sum_deg k (fun i hi=>?_);obtain⟨c,hc,ec⟩:=(wt_deg X hi).smul (Y i);exact⟨c,hc,fun p=>by rw[<- ec];show mul _ _=mul _ _;rw[mul_comm]⟩
theorem lag_lag{X U V:Nat->F}{k:Nat}(hX:Apart X k)(p:F):lag X (fun j=>lag U V k (X j)) k p=lag U V k p:=
 Deg.unique (lag_deg _ _ k) (lag_deg _ _ k) hX (fun _ hi=>lag_at hX hi) p
end Go.Proofs.YtjabhnhejbhgjaaGreatDoor.Gf
namespace Go.Proofs.YtjabhnhejbhgjaaGreatDoor.Gf
def clUp(a b:Nat):Nat->Nat
 | 0=>0
 | k+1=>if b.testBit k then clUp a b k ^^^ (a <<< k) else clUp a b k
def redUp(p:Nat):Nat->Nat
 | 0=>p
 | k+1=>if(redUp p k).testBit (14 - k) then redUp p k ^^^ (285 <<< (14 - k - 8)) else redUp p k
def refMul(a b:F):Nat:=redUp (clUp a.toNat b.toNat 8) 7
theorem nxor4(a b c d:Nat):(a ^^^ b) ^^^ (c ^^^ d)=(a ^^^ c) ^^^ (b ^^^ d):=by
 rw[Nat.xor_assoc,Nat.xor_assoc];congr 1;rw[<- Nat.xor_assoc,<- Nat.xor_assoc,Nat.xor_comm b c]
theorem clUp_xor(a b c k:Nat):clUp a (b ^^^ c) k=clUp a b k ^^^ clUp a c k:=by
 induction k with
 | zero=>simp[clUp]
 | succ k ih=>
  simp only[clUp,Nat.testBit_xor,ih];cases b.testBit k<;>cases c.testBit k<;>simp
  ·rw[Nat.xor_assoc]
  ·rw[Nat.xor_assoc,Nat.xor_assoc,Nat.xor_comm (clUp a c k)]
  ·rw[nxor4];simp
theorem redUp_xor(p q k:Nat):redUp (p ^^^ q) k=redUp p k ^^^ redUp q k:=by
 induction k with
 | zero=>rfl
 | succ k ih=>
  simp only[redUp,ih,Nat.testBit_xor];cases (redUp p k).testBit (14 - k)<;>cases (redUp q k).testBit (14 - k)<;>simp
  ·rw[Nat.xor_assoc]
  ·rw[Nat.xor_assoc,Nat.xor_assoc,Nat.xor_comm (redUp q k)]
  ·rw[nxor4];simp
theorem refMul_xor(a b c:F):refMul a (b ^^^ c)=refMul a b ^^^ refMul a c:=by
 unfold refMul;rw[BitVec.toNat_xor,clUp_xor,redUp_xor]
def bitIf(b:F)(k:Nat):F:=if b.getLsbD k then 1#8 <<< k else 0
theorem bits_eq:∀ b:F,b=bitIf b 0 ^^^ (bitIf b 1 ^^^ (bitIf b 2 ^^^ (bitIf b 3 ^^^ (bitIf b 4 ^^^ (bitIf b 5 ^^^ (bitIf b 6 ^^^ bitIf b 7)))))):=by decide +kernel
theorem span(P:F->Prop)(h0:P 0)(hx:∀ x y,P x->P y->P (x ^^^ y))(hb:∀ k,k<8->P (1#8 <<< k))(b:F):P b:=by
 have hi:∀ k,k<8->P (bitIf b k):=by
  intro k hk;unfold bitIf;split
  ·exact hb k hk
  ·exact h0
 rw[bits_eq b];exact hx _ _ (hi 0 (by omega)) (hx _ _ (hi 1 (by omega)) (hx _ _ (hi 2 (by omega)) (hx _ _ (hi 3 (by omega)) (hx _ _ (hi 4 (by omega)) (hx _ _ (hi 5 (by omega)) (hx _ _ (hi 6 (by omega)) (hi 7 (by omega))))))))
theorem refMul_zero:∀ a:F,refMul a 0=(mul a 0).toNat:=by decide +kernel
theorem refMul_base:∀ k:Fin 8,∀ a:F,refMul a (1#8 <<< k.val)=(mul a (1#8 <<< k.val)).toNat:=by decide +kernel
theorem refMul_eq(a b:F):refMul a b=(mul a b).toNat:=
 span (fun b=>∀ a,refMul a b=(mul a b).toNat) refMul_zero (fun x y hx hy a=>by rw[refMul_xor,hx a,hy a,mul_xor,BitVec.toNat_xor]) (fun k hk a=>refMul_base ⟨k,hk⟩ a) b a
theorem clUp_lt(a b k:Nat)(ha:a<256)(hk:k<=8):clUp a b k<32768:=by
 induction k with
 | zero=>simp[clUp]
 | succ k ih=>
  have ih':=ih (by omega);simp only[clUp];split
  ·refine Nat.xor_lt_two_pow (n:=15) ih' ?_
   rw[Nat.shiftLeft_eq];have:2 ^ k<=2 ^ 7:=Nat.pow_le_pow_right (by omega) (by omega);exact Nat.lt_of_le_of_lt (Nat.mul_le_mul (show a<=255 by omega) this) (by decide)
  ·exact ih'
theorem redUp_lt(p k:Nat)(hp:p<32768)(hk:k<=7):redUp p k<32768:=by
 induction k with
 | zero=>exact hp
 | succ k ih=>
  have ih':=ih (by omega);simp only[redUp];split
  ·refine Nat.xor_lt_two_pow (n:=15) ih' ?_
   rw[Nat.shiftLeft_eq];have:2 ^ (14 - k - 8)<=2 ^ 6:=Nat.pow_le_pow_right (by omega) (by omega);exact Nat.lt_of_le_of_lt (Nat.mul_le_mul (Nat.le_refl 285) this) (by decide)
  ·exact ih'
def overB(a:F)(k:Nat):Bool:=mul a (BitVec.ofNat 8 k)==1
theorem over_found(a:F)(k:Nat)(h:overB a k=true):a≠0/\BitVec.ofNat 8 k=inv a:=by
 have h1:mul a (BitVec.ofNat 8 k)=1:=by simpa [overB] using h
 have ha:a≠0:=by
  intro e;rw[e,zero_mul]at h1;exact absurd h1 (by decide)
 exact⟨ha,mul_left_cancel a _ _ ha (by rw[h1,mul_inv a ha])⟩
theorem over_all(a:F)(ha:a≠0):overB a (inv a).toNat=true:=by
 unfold overB;rw[BitVec.ofNat_toNat,BitVec.setWidth_eq,mul_inv a ha];rfl
theorem inv_pos(a:F)(ha:a≠0):0<(inv a).toNat:=by
 rcases Nat.eq_zero_or_pos (inv a).toNat with h|h
 ·exfalso
  have:inv a=0:=BitVec.eq_of_toNat_eq h;have h1:=mul_inv a ha;rw[this,mul_zero]at h1;exact absurd h1 (by decide)
 ·exact h
def pow(x:F):Nat->F
 | 0=>1
 | n+1=>mul (pow x n) x
end Go.Proofs.YtjabhnhejbhgjaaGreatDoor.Gf
namespace Go.Proofs.YtjabhnhejbhgjaaGreatDoor.Gf
abbrev Mx:=Nat->Nat->F
def dot(r c:Nat->F)(n:Nat):F:=sum (fun j=>mul (r j) (c j)) n
theorem sum_xor(g h:Nat->F):∀ n,sum (fun j=>g j ^^^ h j) n=sum g n ^^^ sum h n:=by
 intro n
 induction n with
 | zero=>simp only[sum];decide
 | succ n ih=>simp only[sum];rw[ih,xor4]
theorem sum_smul(a:F)(g:Nat->F):∀ n,sum (fun j=>mul a (g j)) n=mul a (sum g n):=by
 intro n
 induction n with
 | zero=>exact(mul_zero a).symm
 | succ n ih=>simp only[sum];rw[ih,mul_xor]
theorem dot_add(r s c:Nat->F)(n:Nat):dot (fun j=>r j ^^^ s j) c n=dot r c n ^^^ dot s c n:=by
 unfold dot;rw[<- sum_xor];exact sum_congr n (fun j _=>xor_mul _ _ _)
theorem dot_smul(a:F)(r c:Nat->F)(n:Nat):dot (fun j=>mul a (r j)) c n=mul a (dot r c n):=by
 unfold dot;rw[<- sum_smul];exact sum_congr n (fun j _=>mul_assoc _ _ _)
theorem dot_congr{r s c d:Nat->F}{n:Nat}(h:∀ j,j<n->r j=s j)(h2:∀ j,j<n->c j=d j):dot r c n=dot s d n:=
 sum_congr n (fun j hj=>by show mul (r j) (c j)=mul (s j) (d j);rw[h j hj,h2 j hj])
structure Solves(m:Mx)(n:Nat)(c:Nat->F):Prop where
 sol:∀ i,i<n->dot (m i) c n=m i n
 only:∀ v:Nat->F,(∀ i,i<n->dot (m i) v n=0)->∀ j,j<n->v j=0
def Unit(m:Mx)(n k:Nat):Prop:=∀ j,j<k->∀ i,i<n->m i j=if i=j then 1 else 0
theorem Solves.swap{m:Mx}{n:Nat}{c:Nat->F}(h:Solves m n c){p q:Nat}(hp:p<n)(hq:q<n){m':Mx}
 (e:∀ i,i<n->∀ j,j<=n->m' i j=m (if i=p then q else if i=q then p else i) j):Solves m' n c:=by
 have hlt:∀ i,i<n->(if i=p then q else if i=q then p else i)<n:=fun i hi=>by split;exact hq;split;exact hp;exact hi
 refine⟨fun i hi=>?_,fun v hv=>?_⟩
 ·rw[dot_congr (s:=m (if i=p then q else if i=q then p else i)) (d:=c) (fun j hj=>e i hi j (by omega)) (fun _ _=>rfl),h.sol _ (hlt i hi),e i hi n (Nat.le_refl _)]
 ·refine h.only v (fun i hi=>?_)
  have:=hv (if i=p then q else if i=q then p else i) (hlt i hi);rw[dot_congr (s:=m i) (d:=v) (fun j hj=>?_) (fun _ _=>rfl)]at this
  ·exact this
  ·rw[e _ (hlt i hi) j (by omega)]
   congr 1;by_cases h1:i=p
   ·by_cases h2:q=p
    ·simp[h1,h2]
    ·simp[h1,h2]
   ·by_cases h2:i=q
    ·simp[h2]
    ·simp[h1,h2]
theorem Solves.scale{m:Mx}{n:Nat}{c:Nat->F}(h:Solves m n c){k:Nat}(hk:k<n){a:F}(ha:a≠0){m':Mx}
 (e:∀ i,i<n->∀ j,j<=n->m' i j=if i=k then mul a (m k j) else m i j):Solves m' n c:=by
 refine⟨fun i hi=>?_,fun v hv=>?_⟩
 ·by_cases q:i=k
  ·rw[dot_congr (s:=fun j=>mul a (m k j)) (d:=c) (fun j hj=>by rw[e i hi j (by omega),if_pos q]) (fun _ _=>rfl),dot_smul,h.sol k hk,e i hi n (Nat.le_refl _),if_pos q]
  ·rw[dot_congr (s:=m i) (d:=c) (fun j hj=>by rw[e i hi j (by omega),if_neg q]) (fun _ _=>rfl),h.sol i hi,e i hi n (Nat.le_refl _),if_neg q]
 ·refine h.only v (fun i hi=>?_)
  have:=hv i hi;by_cases q:i=k
  ·rw[dot_congr (s:=fun j=>mul a (m k j)) (d:=v) (fun j hj=>by rw[e i hi j (by omega),if_pos q]) (fun _ _=>rfl),dot_smul]at this
   rcases mul_eq_zero _ _ this with h1|h1
   ·exact absurd h1 ha
   ·rw[q];exact h1
  ·rw[dot_congr (s:=m i) (d:=v) (fun j hj=>by rw[e i hi j (by omega),if_neg q]) (fun _ _=>rfl)]at this
   exact this
theorem Solves.clear{m:Mx}{n:Nat}{c:Nat->F}(h:Solves m n c){k:Nat}(hk:k<n){m':Mx}
 (e:∀ i,i<n->∀ j,j<=n->m' i j=if i=k then m k j else m i j ^^^ mul (m i k) (m k j)):Solves m' n c:=by
 refine⟨fun i hi=>?_,fun v hv=>?_⟩
 ·by_cases q:i=k
  ·rw[dot_congr (s:=m k) (d:=c) (fun j hj=>by rw[e i hi j (by omega),if_pos q]) (fun _ _=>rfl),h.sol k hk,e i hi n (Nat.le_refl _),if_pos q]
  ·rw[dot_congr (s:=fun j=>m i j ^^^ mul (m i k) (m k j)) (d:=c) (fun j hj=>by rw[e i hi j (by omega),if_neg q]) (fun _ _=>rfl),dot_add,dot_smul,h.sol i hi,h.sol k hk,e i hi n (Nat.le_refl _),if_neg q]
 ·have hkv:dot (m k) v n=0:=by
   have:=hv k hk;rw[dot_congr (s:=m k) (d:=v) (fun j hj=>by rw[e k hk j (by omega),if_pos rfl]) (fun _ _=>rfl)]at this;exact this
  refine h.only v (fun i hi=>?_);by_cases q:i=k
  ·rw[q];exact hkv
  ·have:=hv i hi
   rw[dot_congr (s:=fun j=>m i j ^^^ mul (m i k) (m k j)) (d:=v) (fun j hj=>by rw[e i hi j (by omega),if_neg q]) (fun _ _=>rfl),dot_add,dot_smul,hkv,mul_zero]at this;exact(BitVec.xor_zero).symm.trans this
theorem Solves.pivot{m:Mx}{n:Nat}{c:Nat->F}(h:Solves m n c){k:Nat}(hk:k<n)(hU:Unit m n k):∃ i,k<=i/\i<n/\m i k≠0:=by
 apply Classical.byContradiction;intro hno;have hz:∀ i,k<=i->i<n->m i k=0:=fun i h1 h2=>Classical.byContradiction (fun h3=>hno ⟨i,h1,h2,h3⟩)
 have hv:=h.only (fun j=>if j<k then m j k else if j=k then 1 else 0) (fun i hi=>?_) k hk
 ·simp at hv
 ·have hsum:∀ t,t<=k->sum (fun j=>mul (m i j) (if j<k then m j k else if j=k then 1 else 0)) t=if i<t then m i k else 0:=by
   intro t
   induction t with
   | zero=>intro _;rfl
   | succ t ih=>
    intro ht;simp only[sum];rw[ih (by omega),if_pos (show t<k by omega),hU t (by omega) i hi];by_cases e:i=t
    ·subst e;rw[if_pos rfl,if_neg (by omega),if_pos (by omega),one_mul];exact BitVec.zero_xor
    ·rw[if_neg e,zero_mul]
     by_cases e2:i<t
     ·rw[if_pos e2,if_pos (by omega)];exact BitVec.xor_zero
     ·rw[if_neg e2,if_neg (by omega)];exact BitVec.xor_zero
  have hrest:∀ t,k<t->sum (fun j=>mul (m i j) (if j<k then m j k else if j=k then 1 else 0)) t=0:=by
   intro t
   induction t with
   | zero=>intro h;omega
   | succ t ih=>
    intro ht;simp only[sum];by_cases e:t=k
    ·subst e
     rw[hsum t (Nat.le_refl _),if_neg (Nat.lt_irrefl t),if_pos rfl,mul_one];by_cases e2:i<t
     ·rw[if_pos e2];exact BitVec.xor_self
     ·rw[if_neg e2,hz i (by omega) hi];decide
    ·rw[ih (by omega),if_neg (by omega),if_neg e,mul_zero];decide
  exact hrest n hk
theorem Solves.done{m:Mx}{n:Nat}{c:Nat->F}(h:Solves m n c)(hU:Unit m n n)(i:Nat)(hi:i<n):m i n=c i:=by
 rw[<- h.sol i hi];unfold dot;rw[sum_one (m:=i) n hi]
 ·show mul (m i i) (c i)=c i
  rw[hU i hi i hi,if_pos rfl,one_mul]
 ·intro j hj hne
  show mul (m i j) (c j)=0;rw[hU j hj i hi,if_neg (Ne.symm hne),zero_mul]
theorem sum_shift(g:Nat->F):∀ n,sum g (n+1)=g 0 ^^^ sum (fun j=>g (j+1)) n:=by
 intro n
 induction n with
 | zero=>simp only[sum];rw[BitVec.xor_comm]
 | succ n ih=>rw[show sum g (n+1+1)=sum g (n+1) ^^^ g (n+1) from rfl,ih];simp only[sum];rw[BitVec.xor_assoc]
theorem ev_sum(x:F):∀ c:List F,ev c x=sum (fun i=>mul (pow x i) (c.getD i 0)) c.length:=by
 intro c
 induction c with
 | nil=>rfl
 | cons a c ih=>
  rw[List.length_cons,sum_shift];show a ^^^ mul x (ev c x)=_;rw[ih,<- sum_smul];congr 1
  ·show a=mul 1 a;rw[one_mul]
  ·refine sum_congr _ (fun i _=>?_)
   show mul x (mul (pow x i) (c.getD i 0))=mul (mul (pow x i) x) (c.getD i 0);rw[<- mul_assoc,mul_comm x]
theorem ev_zero_coeff:∀(c:List F),c.length<=8->(∀ p,ev c p=0)->∀ i,c.getD i 0=0:=by
 intro c
 induction c with
 | nil=>intro _ _ i;rfl
 | cons a c ih=>
  intro hl h i
  have ha:a=0:=by
   have:=h 0;simp only[ev]at this;rw[zero_mul]at this;exact(BitVec.xor_zero).symm.trans this
  have hc:∀ p,p≠0->ev c p=0:=by
   intro p hp;have:=h p;simp only[ev]at this;rw[ha]at this;have h2:mul p (ev c p)=0:=(BitVec.zero_xor).symm.trans this;rcases mul_eq_zero _ _ h2 with h3|h3
   ·exact absurd h3 hp
   ·exact h3
  have hall:∀ p,ev c p=0:=by
   refine roots ((List.range c.length).map fun t=>BitVec.ofNat 8 (t+1)) c (by simp) ?_ ?_
   ·rw[List.nodup_iff_pairwise_ne,List.pairwise_map]
    refine List.Pairwise.imp_of_mem ?_ List.nodup_range;intro x y hx hy hne e;have h1:=List.mem_range.1 hx;have h2:=List.mem_range.1 hy;have h3:=congrArg BitVec.toNat e;simp only[List.length_cons]at hl;rw[BitVec.toNat_ofNat,BitVec.toNat_ofNat,Nat.mod_eq_of_lt (by omega),Nat.mod_eq_of_lt (by omega)]at h3;omega
   ·intro x hx
    obtain⟨t,ht,rfl⟩:=List.mem_map.1 hx;have h1:=List.mem_range.1 ht;apply hc;intro e;have h3:=congrArg BitVec.toNat e;simp only[List.length_cons]at hl;rw[BitVec.toNat_ofNat,Nat.mod_eq_of_lt (by omega)]at h3;simp at h3
  cases i with
  | zero=>exact ha
  | succ i=>exact ih (by simp only[List.length_cons]at hl;omega) hall i
theorem solves_start{X Y:Nat->F}{n:Nat}(hn:n<=8)(hX:Apart X n){m:Mx}(e:∀ i,i<n->∀ j,j<=n->m i j=if j<n then pow (X i) j else Y i):
 ∃ c:List F,c.length=n/\(∀ p,ev c p=lag X Y n p)/\Solves m n (fun j=>c.getD j 0):=by
 obtain⟨c,hc,ec⟩:=lag_deg X Y n;refine⟨c,hc,fun p=>(ec p).symm,?_,?_⟩
 ·intro i hi
  rw[dot_congr (s:=fun j=>pow (X i) j) (d:=fun j=>c.getD j 0) (fun j hj=>by rw[e i hi j (by omega),if_pos hj]) (fun _ _=>rfl),e i hi n (Nat.le_refl _),if_neg (by omega)];unfold dot;rw[<- hc,<- ev_sum,<- ec,lag_at hX (by omega)]
 ·intro v hv j hj
  have hlen:((List.range n).map v).length=n:=by simp
  have hget:∀ t,t<n->((List.range n).map v).getD t 0=v t:=fun t ht=>by simp[List.getD,ht]
  have hz:∀ p,ev ((List.range n).map v) p=0:=by
   refine roots ((List.range n).map X) _ (by simp) (nodup_of_apart hX) (fun x hx=>?_);obtain⟨i,hi,rfl⟩:=List.mem_map.1 hx;have hi':=List.mem_range.1 hi;rw[ev_sum,hlen];have:=hv i hi';rw[dot_congr (s:=fun j=>pow (X i) j) (d:=v) (fun j hj=>by rw[e i hi' j (by omega),if_pos hj]) (fun _ _=>rfl)]at this;exact(sum_congr n (fun t ht=>by rw[hget t ht])).trans this
  rw[<- hget j hj];exact ev_zero_coeff _ (by rw[hlen];exact hn) hz j
end Go.Proofs.YtjabhnhejbhgjaaGreatDoor.Gf
