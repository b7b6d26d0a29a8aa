import Derived.Test.YtjabhnhejbhgjaaGreatDoorRows
import Derived.WalkKit
import Derived.WalkSpells
import Derived.WalkLawsBesides
import Derived.LaidEql
import Derived.Stop.Asserts
import Derived.RowKitTokens
set_option maxRecDepth 100000
set_option maxHeartbeats 8000000
namespace Go.Proofs.YtjabhnhejbhgjaaGreatDoor
open Go.RowKit Go.Extern.Stop Go.Stop Go.Extern
def E(A:Nat->Addr):Nat->Value
 | 0=>.nilIface
 | k+1=>.iface 269 (.pointer (some (A k)))
theorem E_zero(A:Nat->Addr):E A 0=.nilIface:=rfl
theorem E_succ(A:Nat->Addr)(k:Nat):E A (k+1)=.iface 269 (.pointer (some (A k))):=rfl
def gl:Nat->Nat
 | 0=>4
 | 1=>5
 | 2=>1
 | 3=>6
 | 4=>3
 | 5=>2
 | 6=>7
 | 7=>0
 | _=>0
theorem gl_lt(k:Nat):gl k<8:=by
 unfold gl;split<;>omega
structure Errs(A:Nat->Addr)(B:Nat)(w:World):Prop where
 cell:∀ g,g<8->w.cell? ⟨gl g,0,none⟩=some (E A (g+1))
 apart:∀ i j,i<8->j<8->A i=A j->i=j
 row:∀ i,i<8->∃ c t,w.heap[(A i).block]?=some (.cells c t (0,0))
 low:∀ i,i<8->(A i).block<B
 eight:8<=B
 size:B<=w.heap.size
theorem Errs.below{A:Nat->Addr}{B:Nat}{w w':World}(h:Errs A B w)(hb:Below B w w'):Errs A B w':=
 ⟨fun g hg=>by rw[hb.cell (p:=⟨gl g,0,none⟩) (by have:=h.eight;have:=gl_lt g;show gl g<B;omega)];exact h.cell g hg,h.apart,
  fun i hi=>by rw[hb.block _ (h.low i hi)];exact h.row i hi,h.low,h.eight,Nat.le_trans h.size hb.size⟩
theorem Errs.shrink{A:Nat->Addr}{B:Nat}{w:World}(h:Errs A B w)(w':World)(hb:Below w.heap.size w w'):Errs A B w':=h.below (hb.mono h.size)
theorem Tryz.errComp:(Tryz.prog.info? 269).map (·.comparable)=some true:=by kernel_rfl
theorem Tryz.errSize:(Tryz.prog.info? 290).map (·.size)=some 1:=by kernel_rfl
theorem Errs.eql{A:Nat->Addr}{B:Nat}{w:World}(h:Errs A B w)(i j:Nat)(hi:i<=8)(hj:j<=8):
 (binOp .eql 45 (E A i) (E A j)).run Tryz.prog w=.ok (.bool (decide (i=j))) w:=by
 obtain⟨x,hx,hcmp⟩:=Option.map_eq_some_iff.1 Tryz.errComp;obtain⟨y,hy,hys⟩:=Option.map_eq_some_iff.1 Tryz.errSize
 cases i with
 | zero=>
  cases j with
  | zero=>rw[E_zero];have:=run_eql_nil_nil (P:=Tryz.prog) w 45 (by kernel_rfl);simpa using this
  | succ j=>rw[E_zero,E_succ,run_eql_iface_nil_left (P:=Tryz.prog) w _ _ Tryz.underlying45];simp
 | succ i=>
  cases j with
  | zero=>rw[E_zero,E_succ];have:=run_eql_held_nil (P:=Tryz.prog) w 45 269 (.pointer (some (A i))) (by kernel_rfl);simpa using this
  | succ j=>
   rw[E_succ,E_succ];by_cases e:i=j
   ·subst e
    rw[run_eql_iface_ptr_same (P:=Tryz.prog) w (A i) Tryz.underlying45 Tryz.underlying269 hx hcmp hy];simp
   ·obtain⟨c,t,hc⟩:=h.row i (by omega)
    obtain⟨c',t',hc'⟩:=h.row j (by omega);rw[run_eql_iface_ptr_other (P:=Tryz.prog) w Tryz.underlying45 Tryz.underlying269 hx hcmp hy (by rw[hys];decide) (fun q=>e (h.apart i j (by omega) (by omega) q)) hc hc'];simp[e]
theorem eqGuard_err(A:Nat->Addr)(t:TypeId)(x y:Operand)(i:Nat)(v:Value)(w:World):
 (eqGuard .eql t x y (E A (i+1)) v).run Tryz.prog w=.ok () w:=by
 rw[E_succ];cases v<;>rfl
end Go.Proofs.YtjabhnhejbhgjaaGreatDoor
namespace Go.Proofs.YtjabhnhejbhgjaaGreatDoor
open Go.RowKit
def nineCells(A:Nat->Addr):Array Value:=#[.nilIface,E A 1,E A 2,E A 3,E A 4,E A 5,E A 6,E A 7,E A 8]
theorem nineCells_at(A:Nat->Addr)(k:Nat)(hk:k<9):(nineCells A)[k]?=some (E A k):=by
 have:k=0∨k=1∨k=2∨k=3∨k=4∨k=5∨k=6∨k=7∨k=8:=by omega
 rcases this with rfl|rfl|rfl|rfl|rfl|rfl|rfl|rfl|rfl<;>rfl
theorem cell_alloc_at(w:World)(cs:Array Value)(t:TypeId)(k:Nat):(w.alloc (.cells cs t)).cell? ⟨w.heap.size,k,none⟩=cs[k]?:=by
 exact World.cell?_alloc_at cs t _ k rfl
theorem number_any(A:Nat->Addr)(B:Nat)(i:Nat)(hi:i<8)(w:World)(hE:Errs A B w):
 Calls Tryz.prog 97 #[E A (i+1)] w fun e w'=>e=.returned (.int .i64 ((i:Int)+1))/\Below w.heap.size w w':=by
 have c0:w.cell? ⟨4,0,none⟩=some (.iface 269 (.pointer (some (A 0)))):=hE.cell 0 (by omega);have c1:w.cell? ⟨5,0,none⟩=some (.iface 269 (.pointer (some (A 1)))):=hE.cell 1 (by omega);have c2:w.cell? ⟨1,0,none⟩=some (.iface 269 (.pointer (some (A 2)))):=hE.cell 2 (by omega);have c3:w.cell? ⟨6,0,none⟩=some (.iface 269 (.pointer (some (A 3)))):=hE.cell 3 (by omega);have c4:w.cell? ⟨3,0,none⟩=some (.iface 269 (.pointer (some (A 4)))):=hE.cell 4 (by omega);have c5:w.cell? ⟨2,0,none⟩=some (.iface 269 (.pointer (some (A 5)))):=hE.cell 5 (by omega);have c6:w.cell? ⟨7,0,none⟩=some (.iface 269 (.pointer (some (A 6)))):=hE.cell 6 (by omega);have c7:w.cell? ⟨0,0,none⟩=some (.iface 269 (.pointer (some (A 7)))):=hE.cell 7 (by omega);go_enter Tryz.func97,Tryz.ntmps97;go_wp2;generalize hW:w.alloc (Obj.cells _ _)=W;have hb:Below w.heap.size w W:=by rw[<- hW];exact(Below.refl _ _).alloc (Nat.le_refl _) _
 have hc:∀ k,k<9->W.cell? ⟨w.heap.size,k,none⟩=some (E A k):=by
  intro k hk;rw[<- hW];exact(cell_alloc_at _ _ _ _).trans (nineCells_at A k hk)
 have hE1:=hE.shrink W hb;clear hW c0 c1 c2 c3 c4 c5 c6 c7
 go_loop [4] (fun t=>∃ k:Nat,k<=i+1/\t=.int .i64 k) (fun t=>9 - (intOf t).toNat)
 case atStart=>exact⟨0,by omega,rfl⟩
 case round=>
  obtain⟨k,hk,rfl⟩:=hrel;have hck:=hc k (by omega);have heq:=hE1.eql (i+1) k (by omega) (by omega);have hg:=fun x y=>eqGuard_err A 45 x y i (E A k) W
  by_cases e:i+1=k
  ·subst e
   have ed:decide (i+1=i+1)=true:=by simp
   rw[ed]at heq;clear ed;go_wp2;go_ret;exact⟨rfl,hb⟩
  ·have ed:decide (i+1=k)=false:=by simp[e]
   go_wp2
   go_round
   case rel=>exact⟨k+1,by omega,by go_num⟩
   case measure=>simp[intOf];omega
end Go.Proofs.YtjabhnhejbhgjaaGreatDoor
namespace Go.Proofs.YtjabhnhejbhgjaaGreatDoor
open Go.RowKit Go.Extern.Stop Go.Stop Go.Extern
theorem Tryz.isTypeOf(v:Value)(w:World):(Extern.ReflectliteType.typeOf #[.iface 269 v]).run Tryz.prog w=.ok (.iface 254 (.agg #[.pointer (some ⟨9,269,none⟩)])) w:=by kernel_rfl
def cmpEntry:Array Value->Sem Value:=Extern.ReflectliteType.method fun t=>do Extern.Rtype.noPackHeld "Comparable" t;pure (.bool (<- typeInfo t).comparable)
theorem Tryz.isComparable(w:World):(cmpEntry #[.agg #[.pointer (some ⟨9,269,none⟩)]]).run Tryz.prog w=.ok (.bool true) w:=by kernel_rfl
theorem Tryz.isMethodComparable(n:Nat)(v:Value)(w:World):(Go.method (n+1) 254 v "Comparable").run Tryz.prog w=.ok (176,v) w:=by kernel_rfl
theorem Tryz.noIsE(v:Value)(xT:TypeId)(w:World):(Instr.typeAssert (.iface 269 v) xT 266 true).run Tryz.prog w=.ok (.tuple #[.nilIface,.bool false]) w:=run_typeAssert_lacksB Tryz.underlying266 (by kernel_rfl) (by kernel_rfl) v xT w
theorem Tryz.noUnwrapE(v:Value)(xT:TypeId)(w:World):(Instr.typeAssert (.iface 269 v) xT 261 true).run Tryz.prog w=.ok (.tuple #[.nilIface,.bool false]) w:=run_typeAssert_lacksB Tryz.underlying261 (by kernel_rfl) (by kernel_rfl) v xT w
theorem Tryz.noUnwrapsE(v:Value)(xT:TypeId)(w:World):(Instr.typeAssert (.iface 269 v) xT 262 true).run Tryz.prog w=.ok (.tuple #[.nilIface,.bool false]) w:=run_typeAssert_lacksB Tryz.underlying262 (by kernel_rfl) (by kernel_rfl) v xT w
theorem Tryz.noIsW(v:Value)(xT:TypeId)(w:World):(Instr.typeAssert (.iface 166 v) xT 266 true).run Tryz.prog w=.ok (.tuple #[.nilIface,.bool false]) w:=run_typeAssert_lacksB Tryz.underlying266 (by kernel_rfl) (by kernel_rfl) v xT w
theorem Tryz.hasUnwrapW(v:Value)(xT:TypeId)(w:World):(Instr.typeAssert (.iface 166 v) xT 261 true).run Tryz.prog w=.ok (.tuple #[.iface 166 v,.bool true]) w:=run_typeAssert_hasB Tryz.underlying261 (by kernel_rfl) v xT w
theorem Tryz.methodUnwrap(n:Nat)(a:Addr)(w:World):(Go.method (n+1) 166 (.pointer (some a)) "Unwrap").run Tryz.prog w=.ok (170,.pointer (some a)) w:=by kernel_rfl
theorem is_bad_same(A:Nat->Addr)(B:Nat)(i:Nat)(hi:i<8)(pb:Nat)(w:World)(hE:Errs A B w)(h1:w.cell? ⟨pb,1,none⟩=some (E A (i+1))):
 Calls Tryz.prog 127 #[.iface 166 (.pointer (some ⟨pb,0,none⟩)),E A (i+1)] w fun e w'=>e=.returned (.bool true)/\w'=w:=by
 have h8:=@run_callFunc_extern Tryz.prog 142 _ Extern.ReflectliteType.typeOf Tryz.func142 (by kernel_rfl) (by kernel_rfl) (by kernel_rfl) (by kernel_rfl);have h32:=@run_callFunc_extern Tryz.prog 176 _ cmpEntry Tryz.func176 (by kernel_rfl) (by kernel_rfl) (by kernel_rfl) (by kernel_rfl);have tT:=Tryz.isTypeOf;have cT:=Tryz.isComparable;have mR:=Tryz.isMethodComparable;have nE:=Tryz.noIsE;have uE:=Tryz.noUnwrapE;have vE:=Tryz.noUnwrapsE;have nW:=Tryz.noIsW;have uW:=Tryz.hasUnwrapW;have mU:=Tryz.methodUnwrap;have heq:=hE.eql (i+1) (i+1) (by omega) (by omega);have hdec:decide (i+1=i+1)=true:=by simp
 rw[hdec]at heq;clear hdec;rw[E_succ]at h1 heq ⊢;have hty:=run_eql_iface_types (P:=Tryz.prog) 166 269 (.pointer (some ⟨pb,0,none⟩)) (.pointer (some (A i))) Tryz.underlying45 (by decide) w;go_enter Tryz.func127,Tryz.ntmps127;go_wp2;refine wp_loop_rounds 2 ?_;rw[rounds_succ];go_wp2;rw[rounds_succ];go_wp2;go_ret;exact⟨rfl,rfl⟩
end Go.Proofs.YtjabhnhejbhgjaaGreatDoor
