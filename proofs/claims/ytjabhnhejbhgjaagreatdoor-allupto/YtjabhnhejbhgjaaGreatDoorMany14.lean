import Derived.Test.YtjabhnhejbhgjaaGreatDoorMany13
import Derived.Laws.CopyOwn
import Derived.Deep.AppendLies
import Derived.Deep.DeepAppendWide
import Derived.Test.YtjabhnhejbhgjaaGreatDoorMany2
import Derived.Deep.QuietTactic
import Derived.BigQuiet
import Derived.Deep.RegionWith
import Derived.Deep.RegionHeld3
import Derived.Test.YtjabhnhejbhgjaaGreatDoorMany8
set_option maxRecDepth 100000
set_option maxHeartbeats 8000000
namespace Go.Proofs.YtjabhnhejbhgjaaGreatDoor
open Go.RowKit
structure But(S:Nat->Prop)(w w':World):Prop where
 os:w'.os=w.os
 tape:w'.tape=w.tape
 output:w'.output=w.output
 size:w.heap.size<=w'.heap.size
 block:∀ k,k<w.heap.size->¬ S k->w'.heap[k]?=w.heap[k]?
theorem But.refl(S:Nat->Prop)(w:World):But S w w:=⟨rfl,rfl,rfl,Nat.le_refl _,fun _ _ _=>rfl⟩
theorem But.trans{S:Nat->Prop}{a b c:World}(h:But S a b)(k:But S b c):But S a c:=
 ⟨k.os.trans h.os,k.tape.trans h.tape,k.output.trans h.output,Nat.le_trans h.size k.size,fun i hi hn=>(k.block i (Nat.lt_of_lt_of_le hi h.size) hn).trans (h.block i hi hn)⟩
theorem But.wide{S T:Nat->Prop}{a b:World}(h:But S a b)(hT:∀ k,k<a.heap.size->S k->T k):But T a b:=
 ⟨h.os,h.tape,h.output,h.size,fun k hk hn=>h.block k hk (fun q=>hn (hT k hk q))⟩
theorem But.then{S T:Nat->Prop}{a b c:World}(h:But S a b)(k:But T b c)(hT:∀ i,i<a.heap.size->T i->S i):But S a c:=
 ⟨k.os.trans h.os,k.tape.trans h.tape,k.output.trans h.output,Nat.le_trans h.size k.size,fun i hi hn=>(k.block i (Nat.lt_of_lt_of_le hi h.size) (fun q=>hn (hT i hi q))).trans (h.block i hi hn)⟩
theorem But.below{S:Nat->Prop}{a b c:World}{B:Nat}(h:But S a b)(k:Below B b c)(hB:∀ i,i<a.heap.size->¬ i<B->S i):But S a c:=
 ⟨k.os.trans h.os,k.tape.trans h.tape,k.output.trans h.output,Nat.le_trans h.size k.size,fun i hi hn=>by
  by_cases q:i<B
  ·exact(k.block i q).trans (h.block i hi hn)
  ·exact absurd (hB i hi q) hn⟩
theorem But.alloc{S:Nat->Prop}{a b:World}(h:But S a b)(o:Obj):But S a (b.alloc o):=
 ⟨h.os,h.tape,h.output,by have:=h.size;simp;omega,fun k hk hn=>by rw[Below.heap_alloc _ _ _ (Nat.lt_of_lt_of_le hk h.size)];exact h.block k hk hn⟩
theorem But.setCell{S:Nat->Prop}{a b:World}(h:But S a b){p:Addr}(hp:S p.block∨a.heap.size<=p.block)(u:Value):But S a (b.setCell p u):=
 ⟨h.os,h.tape,h.output,by have:=h.size;simp;omega,fun k hk hn=>by
  rw[Below.heap_setCell _ _ _ _ (fun q=>by subst q;rcases hp with hp|hp;exact hn hp;omega)];exact h.block k hk hn⟩
theorem But.grown{S:Nat->Prop}{a b c:World}{row:Option Nat}(h:But S a b)(hg:b.grownBy c row)(hr:∀ k,row=some k->S k∨a.heap.size<=k):But S a c:=
 ⟨hg.os.trans h.os,hg.tape.trans h.tape,hg.output.trans h.output,Nat.le_trans h.size hg.size,fun k hk hn=>by
  rw[grown_block hg (Nat.lt_of_lt_of_le hk h.size) (fun q=>by rcases hr k q with q|q;exact hn q;omega)];exact h.block k hk hn⟩
theorem But.drew{S:Nat->Prop}{a b:World}(h:But S a b):But S a b.drew:=⟨h.os,h.tape,h.output,h.size,h.block⟩
theorem Below.but{B:Nat}{a b:World}(h:Below B a b)(S:Nat->Prop)(hB:∀ i,i<a.heap.size->¬ i<B->S i):But S a b:=(But.refl S a).below h hB
theorem But.toBelow{S:Nat->Prop}{a b:World}(h:But S a b){B:Nat}(hB:B<=a.heap.size)(hS:∀ k,k<B->¬ S k):Below B a b:=
 ⟨h.os,h.tape,h.output,h.size,fun k hk=>h.block k (by omega) (hS k hk)⟩
theorem But.own{S:Nat->Prop}{a b:World}(h:But S a b){B n sz:Nat}{e:TypeId}{v:Value}{xs:List Value}(ho:a.ownsRow B e sz v n xs)(hn:∀ g,v.ownBlock=some g->¬ S g):b.ownsRow B e sz v n xs:=
 own_of_block ho (fun g hg=>h.block g (ho.lt g hg).2 (hn g hg))
theorem own_block{w:World}{B n sz:Nat}{e:TypeId}{v:Value}{xs:List Value}(h:w.ownsRow B e sz v n xs){g:Nat}(hg:v.ownBlock=some g):∃ cur,w.heap[g]?=some (.cells cur e (0,0)):=by
 rcases h.2 with⟨rfl,_⟩|⟨g',cap,cur,rfl,_,hh,_⟩
 ·simp[Value.ownBlock]at hg
 ·simp[Value.ownBlock]at hg
  subst hg;exact⟨cur,hh⟩
theorem own_ne{w:World}{B n sz g k:Nat}{e t:TypeId}{v:Value}{xs:List Value}{cs:Array Value}{fr:Nat×Nat}(h:w.ownsRow B e sz v n xs)(hg:v.ownBlock=some g)(hk:w.heap[k]?=some (.cells cs t fr))(hne:e≠t):g≠k:=by
 intro q;subst q;obtain⟨cur,hc⟩:=own_block h hg;rw[hc]at hk;simp only[Option.some.injEq,Obj.cells.injEq]at hk;exact hne hk.2.1
structure HS where
 sv:Value
 rv:Value
 in_:Value
 rows:Value
 ints:Value
 iwant:Value
 n:Int
 out:Value
 marks:Value
 outer:Value
 omarks:Value
 lacks:Value
 lmarks:Value
 objs:Value
 bmarks:Value
def HS.cells(s:HS):Array Value:=#[s.sv,s.rv,s.in_,s.rows,s.ints,s.iwant,.int .i64 s.n,s.out,s.marks,s.outer,s.omarks,s.lacks,s.lmarks,s.objs,s.bmarks]
def HAt(w:World)(hb:Nat)(s:HS):Prop:=w.heap[hb]?=some (.cells s.cells 81 (0,0))
theorem HAt.lt{w:World}{hb:Nat}{s:HS}(h:HAt w hb s):hb<w.heap.size:=(Array.getElem?_eq_some_iff.1 h).1
theorem HAt.cell{w:World}{hb:Nat}{s:HS}(h:HAt w hb s)(i:Nat):w.cell? ⟨hb,i+2,none⟩=s.cells[i+2]?:=cell_of_row w hb (i+2) _ _ _ h
theorem HAt.frozen{w:World}{hb:Nat}{s:HS}(h:HAt w hb s)(i:Nat):w.frozen? ⟨hb,i,none⟩=false:=frozen_of_row w hb i _ _ h
theorem HAt.kept{w w':World}{hb:Nat}{s:HS}(h:HAt w hb s)(hk:w'.heap[hb]?=w.heap[hb]?):HAt w' hb s:=by unfold HAt;rw[hk];exact h
theorem HAt.set0{w:World}{hb:Nat}{s:HS}(h:HAt w hb s)(v:Value):HAt (w.setCell ⟨hb,2,none⟩ v) hb {s with in_:=v}:=by unfold HAt;rw[heap_setCell_same w hb 2 _ _ _ h];rfl
theorem HAt.set1{w:World}{hb:Nat}{s:HS}(h:HAt w hb s)(v:Value):HAt (w.setCell ⟨hb,3,none⟩ v) hb {s with rows:=v}:=by unfold HAt;rw[heap_setCell_same w hb 3 _ _ _ h];rfl
theorem HAt.set2{w:World}{hb:Nat}{s:HS}(h:HAt w hb s)(v:Value):HAt (w.setCell ⟨hb,4,none⟩ v) hb {s with ints:=v}:=by unfold HAt;rw[heap_setCell_same w hb 4 _ _ _ h];rfl
theorem HAt.set3{w:World}{hb:Nat}{s:HS}(h:HAt w hb s)(v:Value):HAt (w.setCell ⟨hb,5,none⟩ v) hb {s with iwant:=v}:=by unfold HAt;rw[heap_setCell_same w hb 5 _ _ _ h];rfl
theorem HAt.set4{w:World}{hb:Nat}{s:HS}(h:HAt w hb s)(v:Int):HAt (w.setCell ⟨hb,6,none⟩ (.int .i64 v)) hb {s with n:=v}:=by unfold HAt;rw[heap_setCell_same w hb 6 _ _ _ h];rfl
theorem HAt.set5{w:World}{hb:Nat}{s:HS}(h:HAt w hb s)(v:Value):HAt (w.setCell ⟨hb,7,none⟩ v) hb {s with out:=v}:=by unfold HAt;rw[heap_setCell_same w hb 7 _ _ _ h];rfl
theorem HAt.set6{w:World}{hb:Nat}{s:HS}(h:HAt w hb s)(v:Value):HAt (w.setCell ⟨hb,8,none⟩ v) hb {s with marks:=v}:=by unfold HAt;rw[heap_setCell_same w hb 8 _ _ _ h];rfl
theorem Blk.kept{w w':World}{g:Nat}{l:List Gf.F}(h:Blk w g l)(hk:w'.heap[g]?=w.heap[g]?):Blk w' g l:=by unfold Blk;rw[hk];exact h
theorem Tryz.info_lent:(Tryz.prog.info? 221).map (fun i=>(i.zero,i.size,i.bytes))=some (some (.agg #[.slice none 0 0,.slice none 0 0]),2,48):=by kernel_rfl
theorem Tryz.lent_parts:∃ i,Tryz.prog.info? 221=some i/\i.zero=some (.agg #[.slice none 0 0,.slice none 0 0])/\i.size=2/\i.bytes=48:=by
 obtain⟨i,hi,h⟩:=Option.map_eq_some_iff.1 Tryz.info_lent;simp only[Prod.mk.injEq]at h;exact⟨i,hi,h.1,h.2.1,h.2.2⟩
theorem run_append_apart(w:World)(t ty:TypeId)(base:Nat)(e:TypeId)(i:TypeInfo)(z:Value)(size bytes:Nat)(ht:Tryz.prog.underlying t=some (.slice e))(hi:Tryz.prog.info? e=some i)(hz:i.zero=some z)
 (hsize:i.size=size) (hby:i.bytes=bytes) (hzs:z.cells.size=size) (hsz:0<size) (v:Value) (n:Nat) (xs:List Value) (hown:w.ownsRow base e size v n xs)
 (ad:Addr) (m c:Nat) (news:List Value) (hl:news.length=m*size) (hnews:∀ j u,news[j]?=some u->w.cell? (ad.add j)=some u) (h1:∀ u ∈ news,u.oneCell'=true)
 (hm:0<m) (h63:n+m<=maxLen) (hbytes:((n+m)+(n+m)/4+192)*bytes<=281474976710656) (hbytes2:(n+m)*bytes<=140737488355328) (hbase:base<=w.heap.size):
 ∃ g cap w',(Builtin.append_ #[t,t] ty #[v,.slice (some ad) m c]).run Tryz.prog w=.ok (.slice (some ⟨g,0,none⟩) (n+m) cap) w'/\
  w'.ownsRow base e size (.slice (some ⟨g,0,none⟩) (n+m) cap) (n+m) (xs++news)/\w.grownBy w' v.ownBlock/\(v.ownBlock=some g∨g=w.heap.size/\∀ k,k<w.heap.size->w'.heap[k]?=w.heap[k]?)/\g<w'.heap.size:=by
 obtain⟨g,cap,w',hr,h2,h3,h4,h5⟩:=run_append_lies (P:=Tryz.prog) w t ty base e i z size bytes ht hi hz hsize hby hzs hsz v n xs hown ad m c news hl hnews h1 hm h63 hbytes2 hbase w.heap.size rfl;refine⟨g,cap,w',hr,h2,h3,?_,h5⟩;rcases h4 with h4|h4
 ·exact .inl h4
 ·subst hsize
  subst hby;rcases hown.2 with⟨rfl,rfl⟩|⟨g0,cap0,cur,rfl,hb0,hg0,hnc,hcm,hcs,htake⟩
  ·exact .inr ⟨h4,fun k hk=>h3.block k hk (by simp[Value.ownBlock])⟩
  ·by_cases hroom:n+m<=cap0
   ·have hfit:n*i.size+news.length<=cur.size:=by rw[hl,hcs,<- Nat.add_mul];exact Nat.mul_le_mul_right _ hroom
    have hr2:=run_append_room (P:=Tryz.prog) w t ty e i ht hi g0 n cap0 cur hg0 ad m c news hl hnews h1 hroom hfit;rw[hr2]at hr;simp only[Result.ok.injEq,Value.slice.injEq,Option.some.injEq,Addr.mk.injEq]at hr;exact .inl (by rw[<- hr.1.1.1];rfl)
   ·have hr2:=run_append_grow (P:=Tryz.prog) w t ty e i z ht hi hz ⟨g0,0,none⟩ n cap0 xs hown.1 (hown.cells (g:=g0) rfl) ad m c news hl hnews (by omega) (by simp only[maxLen]at h63;omega) (growslice_fits_wide (by omega) hbytes)
    rw[hr2]at hr;simp only[Result.ok.injEq]at hr;exact .inr ⟨h4,fun k hk=>by rw[<- hr.2];exact Below.heap_alloc w.drew _ k hk⟩
theorem wpList_append_apart{w:World}{ops:Array Oper}{rest:List Oper}{o:Oper}{a:Act}{Q:Exit->Act->World->Prop}(hgd:o.guard=none)(s x:Operand)(t:TypeId)(ho:o.op=.call {callee:=.builtin .append,args:=#[s,x],argTypes:=#[t,t]})
 (base:Nat) (e:TypeId) (i:TypeInfo) (z:Value) (size bytes:Nat) (ht:Tryz.prog.underlying t=some (.slice e)) (hi:Tryz.prog.info? e=some i) (hz:i.zero=some z)
 (hsize:i.size=size) (hby:i.bytes=bytes) (hzs:z.cells.size=size) (hsz:0<size) (v:Value) (n:Nat) (xs:List Value) (hs:a.eval s=v) (hown:w.ownsRow base e size v n xs)
 (ad:Addr) (m c:Nat) (news:List Value) (hx:a.eval x=.slice (some ad) m c) (hl:news.length=m*size) (hnews:∀ j u,news[j]?=some u->w.cell? (ad.add j)=some u) (h1:∀ u ∈ news,u.oneCell'=true)
 (hm:0<m) (h63:n+m<=maxLen) (hbytes:((n+m)+(n+m)/4+192)*bytes<=281474976710656) (hbytes2:(n+m)*bytes<=140737488355328) (hbase:base<=w.heap.size)
 (h:∀ g cap w',w'.ownsRow base e size (.slice (some ⟨g,0,none⟩) (n+m) cap) (n+m) (xs++news)->w.grownBy w' v.ownBlock->(v.ownBlock=some g∨g=w.heap.size/\∀ k,k<w.heap.size->w'.heap[k]?=w.heap[k]?)->g<w'.heap.size->wpList Tryz.prog ops Q rest (a.put o.dst (.slice (some ⟨g,0,none⟩) (n+m) cap)) w'):wpList Tryz.prog ops Q (o :: rest) a w:=
 wpList_plain hgd fun _ hK=>by
  obtain⟨g,cap,w',hr,h2,h3,h4,h5⟩:=run_append_apart w t o.type base e i z size bytes ht hi hz hsize hby hzs hsz v n xs hown ad m c news hl hnews h1 hm h63 hbytes hbytes2 hbase;unfold Oper.wp execOp;simp only[ho,resolve,invoke,builtin,Sem.run_bind,Sem.run_pure,Result.andThen_ok,List.map_toArray,List.map_cons,List.map_nil,hs,hx,hr];exact hK _ _ (h g cap w' h2 h3 h4 h5)
def Rdr(w:World)(rb:Nat)(v:Value)(k:Nat):Prop:=w.heap[rb]?=some (.cells #[v,.int .i64 k] 160 (0,0))
theorem Rdr.lt{w:World}{rb k:Nat}{v:Value}(h:Rdr w rb v k):rb<w.heap.size:=(Array.getElem?_eq_some_iff.1 h).1
theorem Rdr.c0{w:World}{rb k:Nat}{v:Value}(h:Rdr w rb v k):w.cell? ⟨rb,0,none⟩=some v:=cell_of_row w rb 0 _ _ _ h
theorem Rdr.c1{w:World}{rb k:Nat}{v:Value}(h:Rdr w rb v k):w.cell? ⟨rb,1,none⟩=some (.int .i64 k):=cell_of_row w rb 1 _ _ _ h
theorem Rdr.fr{w:World}{rb k:Nat}{v:Value}(h:Rdr w rb v k)(i:Nat):w.frozen? ⟨rb,i,none⟩=false:=frozen_of_row w rb i _ _ h
theorem Rdr.kept{w w':World}{rb k:Nat}{v:Value}(h:Rdr w rb v k)(hk:w'.heap[rb]?=w.heap[rb]?):Rdr w' rb v k:=by unfold Rdr;rw[hk];exact h
theorem Rdr.set{w:World}{rb k j:Nat}{v:Value}(h:Rdr w rb v k):Rdr (w.setCell ⟨rb,1,none⟩ (.int .i64 j)) rb v j:=by unfold Rdr;rw[heap_setCell_same w rb 1 _ _ _ h];rfl
def Wr(w w':World)(u:Value)(z:Int)(x:Value):Prop:=∃ pb,u=.iface 166 (.pointer (some ⟨pb,0,none⟩))/\w.heap.size<=pb/\w'.heap[pb]?=some (.cells #[.int .i64 z,x] 168 (0,0))
theorem wrong_any(u:TypeId)(x:Value)(z:Int)(w:World):
 Calls Tryz.prog 41 #[.iface u x,.int .i64 z] w fun e w'=>e=.returned (.iface 166 (.pointer (some ⟨w.heap.size,0,none⟩)))/\w'=w.alloc (.cells #[.int .i64 z,.iface u x] 168):=by
 go_enter Tryz.func41,Tryz.ntmps41;go_wp2;go_ret;exact⟨rfl,rfl⟩
theorem wr_new(w:World)(u:TypeId)(x:Value)(z:Int)(nq:Nat):Wr w ((w.drewN nq).alloc (.cells #[.int .i64 z,.iface u x] 168)) (.iface 166 (.pointer (some ⟨w.heap.size,0,none⟩))) z (.iface u x)/\Below w.heap.size w ((w.drewN nq).alloc (.cells #[.int .i64 z,.iface u x] 168)):=
 ⟨⟨w.heap.size,rfl,Nat.le_refl _,heap_alloc_new (w.drewN nq) _⟩,(show Below w.heap.size w (w.drewN nq) from ⟨rfl,rfl,rfl,Nat.le_refl _,fun _ _=>rfl⟩).alloc (Nat.le_refl _) _⟩
theorem next_short(a:Option Addr)(rb n c k size:Nat)(u:TypeId)(x:Value)(w:World)(hR:Rdr w rb (.slice a n c) k)(_hn:n<=140737488355328)(hk:k<=n)(hs:n - k<size)(_hs2:size<=100)
 (hg:w.cell? ⟨6,0,none⟩=some (.iface u x)):
 Calls Tryz.prog 111 #[.pointer (some ⟨rb,0,none⟩),.int .i64 size] w fun e w'=>
  ∃ v,e=.returned (.tuple #[.slice none 0 0,v])/\Wr w w' v (n:Int) (.iface u x)/\Below w.heap.size w w':=by
 have c0:=hR.c0;have c1:=hR.c1;have hlt:(n:Int) - (k:Int)<(size:Int):=by omega
 clear hR;go_enter Tryz.func111,Tryz.ntmps111;go_wp2_with fail
 go_quiet (fail)
 go_wp2_with fail
 go_region_with (go_at_call 41;refine(wrong_any _ _ _ _).mono ?_;rintro e w' ⟨rfl,rfl⟩)
 all_goals go_wp2_with fail
 all_goals go_ret2
 all_goals exact⟨_,rfl,(wr_new w u x (n:Int) _).1,(wr_new w u x (n:Int) _).2⟩
theorem next_ok(rb b o n c k size:Nat)(w:World)(hR:Rdr w rb (.slice (some ⟨b,o,none⟩) n c) k)(hn:n<=c)(_hc:c<=9223372036854775807)(hs:1<=size)(hk:k+size<=n)(hn2:n<=140737488355328):
 Calls Tryz.prog 111 #[.pointer (some ⟨rb,0,none⟩),.int .i64 size] w fun e w'=>
  e=.returned (.tuple #[.slice (some ⟨b,o+k,none⟩) size (c - k),.nilIface])/\Rdr w' rb (.slice (some ⟨b,o,none⟩) n c) (k+size)/\But (fun g=>g=rb) w w':=by
 have c0:=hR.c0;have c1:=hR.c1;have f1:=hR.fr 1;have hlt:¬(n:Int) - (k:Int)<(size:Int):=by omega
 have HR:Hid (Rdr w rb (.slice (some ⟨b,o,none⟩) n c) k):=hR;have hck:¬ c=k:=by omega
 have hck2:¬ c - k=0:=by omega
 clear hR;go_enter Tryz.func111,Tryz.ntmps111;go_wp2_with fail
 go_quiet (fail)
 go_wp2_with fail
 go_quiet (fail)
 go_wp2_with fail;have ek:k+size - k=size:=by omega
 rw[ek];go_ret2;refine⟨rfl,?_,?_⟩
 ·exact(show Rdr (w.drewN _) rb (.slice (some ⟨b,o,none⟩) n c) k from HR.out).set
 ·exact But.setCell (S:=fun g=>g=rb) (show But (fun g=>g=rb) w (w.drewN _) from ⟨rfl,rfl,rfl,Nat.le_refl _,fun _ _ _=>rfl⟩) (p:=⟨rb,1,none⟩) (.inl rfl) _
theorem is_nil(A:Nat->Addr)(B:Nat)(j:Nat)(hj:j<8)(w:World)(hE:Errs A B w):
 Calls Tryz.prog 127 #[.nilIface,E A (j+1)] w fun e w'=>e=.returned (.bool false)/\w'=w:=by
 have heq:=hE.eql 0 (j+1) (by omega) (by omega);have hdec:decide (0=j+1)=false:=by simp
 rw[hdec]at heq;clear hdec;rw[E_zero,E_succ]at heq;rw[E_succ];go_enter Tryz.func127,Tryz.ntmps127;go_wp2;go_ret;exact⟨rfl,rfl⟩
theorem end_ok(A:Nat->Addr)(B0:Nat)(a:Option Addr)(rb n c:Nat)(w:World)(hE:Errs A B0 w)(hR:Rdr w rb (.slice a n c) n)(hn:n<=140737488355328):
 Calls Tryz.prog 112 #[.pointer (some ⟨rb,0,none⟩)] w fun e w'=>e=.returned .nilIface/\Below w.heap.size w w':=by
 have c0:=hR.c0;have c1:=hR.c1;have hb1:Below w.heap.size w (w.alloc (.cells #[.slice a n c,.int .i64 n] 160)):=(Below.refl _ _).alloc (Nat.le_refl _) _;have hR1:Rdr (w.alloc (.cells #[.slice a n c,.int .i64 n] 160)) w.heap.size (.slice a n c) n:=heap_alloc_new w (.cells #[.slice a n c,.int .i64 n] 160);have hE1:=hE.shrink _ hb1;have hsz1:w.heap.size<=(w.alloc (.cells #[.slice a n c,.int .i64 n] 160)).heap.size:=hb1.size;clear hR;go_enter Tryz.func112,Tryz.ntmps112;go_wp2_with fail;refine(next_short a w.heap.size n c n 1 _ _ _ hR1 hn (Nat.le_refl _) (by omega) (by omega) (hE1.cell 3 (by omega))).mono ?_;rintro e w1 ⟨v,rfl,⟨pb,rfl,hpb,hblk⟩,hb2⟩;have hE2:=hE1.shrink _ hb2;have hp1:w1.cell? ⟨pb,1,none⟩=some (E A (3+1)):=cell_of_row w1 pb 1 _ _ _ hblk;have hg:w1.cell? ⟨6,0,none⟩=some (.iface 269 (.pointer (some (A 3)))):=hE2.cell 3 (by omega);have hb3:Below w.heap.size w w1:=hb1.trans (hb2.mono hsz1);clear hb1 hR1 hE1 hb2 c0 c1 hblk hpb hsz1;go_wp2_with (go_at_call 127;refine(is_bad_same A B0 3 (by omega) pb _ hE2 hp1).mono ?_;rintro e w' ⟨rfl,rfl⟩);go_ret;exact⟨rfl,hb3⟩
theorem end_long(A:Nat->Addr)(B0 rb b o n c k:Nat)(w:World)(hE:Errs A B0 w)(hR:Rdr w rb (.slice (some ⟨b,o,none⟩) n c) k)(hk:k<n)(hnc:n<=c)(hc:c<=9223372036854775807)(hn:n<=140737488355328):
 Calls Tryz.prog 112 #[.pointer (some ⟨rb,0,none⟩)] w fun e w'=>∃ v,e=.returned v/\Wr w w' v (k:Int) (E A 7)/\Below w.heap.size w w':=by
 have c0:=hR.c0;have c1:=hR.c1;have hrl:=hR.lt;have hb1:Below w.heap.size w (w.alloc (.cells #[.slice (some ⟨b,o,none⟩) n c,.int .i64 k] 160)):=(Below.refl _ _).alloc (Nat.le_refl _) _;have hR1:Rdr (w.alloc (.cells #[.slice (some ⟨b,o,none⟩) n c,.int .i64 k] 160)) w.heap.size (.slice (some ⟨b,o,none⟩) n c) k:=heap_alloc_new w (.cells #[.slice (some ⟨b,o,none⟩) n c,.int .i64 k] 160);have hsz1:w.heap.size<=(w.alloc (.cells #[.slice (some ⟨b,o,none⟩) n c,.int .i64 k] 160)).heap.size:=hb1.size;have hR0:=hR;clear hR;go_enter Tryz.func112,Tryz.ntmps112;go_wp2_with fail;refine(next_ok w.heap.size b o n c k 1 _ hR1 hnc hc (by omega) (by omega) hn).mono ?_;rintro e w1 ⟨rfl,hR2,hb2⟩;have hb3:Below w.heap.size w w1:=hb1.trans (hb2.toBelow hsz1 (fun i hi q=>by omega));have hE2:=hE.shrink _ hb3;have hgS:w1.cell? ⟨6,0,none⟩=some (.iface 269 (.pointer (some (A 3)))):=hE2.cell 3 (by omega);have hgL:w1.cell? ⟨7,0,none⟩=some (.iface 269 (.pointer (some (A 6)))):=hE2.cell 6 (by omega);have k1:w1.cell? ⟨rb,1,none⟩=some (.int .i64 k):=(hR0.kept (hb3.block rb hrl)).c1
 have key:∀ nq,Wr w ((w1.drewN nq).alloc (.cells #[.int .i64 k,.iface 269 (.pointer (some (A 6)))] 168)) (.iface 166 (.pointer (some ⟨w1.heap.size,0,none⟩))) (k:Int) (E A 7)/\Below w.heap.size w ((w1.drewN nq).alloc (.cells #[.int .i64 k,.iface 269 (.pointer (some (A 6)))] 168)):=
  fun nq=>⟨⟨w1.heap.size,rfl,hb3.size,heap_alloc_new (w1.drewN nq) _⟩,hb3.trans ((wr_new w1 269 (.pointer (some (A 6))) (k:Int) nq).2.mono hb3.size)⟩
 clear hb1 hR1 hb2 c0 c1 hsz1 hR0 hR2;go_wp2_with (go_at_call 127;refine(is_nil A B0 3 (by omega) _ hE2).mono ?_;rintro e w' ⟨rfl,rfl⟩)
 go_region_with (go_at_call 41;refine(wrong_any _ _ _ _).mono ?_;rintro e w' ⟨rfl,rfl⟩)
 all_goals go_wp2_with fail
 all_goals go_ret
 all_goals exact⟨_,rfl,(key _).1,(key _).2⟩
def numAt(l:List Gf.F)(k:Nat):Nat->Nat
 | 0=>0
 | j+1=>numAt l k j*256+(at_ l (k+j)).toNat
theorem numAt_lt(l:List Gf.F)(k:Nat):∀ j,numAt l k j<256 ^ j
 | 0=>by simp[numAt]
 | j+1=>by
  have h1:=numAt_lt l k j;have h2:=(at_ l (k+j)).isLt;have e:numAt l k (j+1)=numAt l k j*256+(at_ l (k+j)).toNat:=rfl;rw[e,Nat.pow_succ];omega
theorem ofInt64_more(a:Nat)(ha:a<1048576):(BitVec.ofInt 64 (a:Int)).toNat=a:=by
 rw[BitVec.ofInt_natCast,BitVec.toNat_ofNat];exact Nat.mod_eq_of_lt (by omega)
theorem i64_or_nat(a b:Nat)(ha:a<256)(hb:b<256):bits .or .i64 ((a:Int)*256) (b:Int)=((a*256+b:Nat):Int):=by
 have e1:((a:Int)*256)=((a*256:Nat):Int):=by omega
 have e2:a*256 ||| b=a*256+b:=by rw[show a*256=a <<< 8 by rw[Nat.shiftLeft_eq],Nat.shiftLeft_add_eq_or_of_lt (by omega:b<2 ^ 8)]
 rw[e1];show IntKind.i64.wrap ((BitVec.ofInt 64 ((a*256:Nat):Int) ||| BitVec.ofInt 64 (b:Int)).toNat:Int)=_;rw[BitVec.toNat_or,ofInt64_more _ (by omega),ofInt64_more _ (by omega),e2,IntKind.wrap_i64];omega
theorem number_short(a:Option Addr)(rb n c k size:Nat)(u:TypeId)(x:Value)(uw:TypeId)(xw:Value)(may:Value)(w:World)(hR:Rdr w rb (.slice a n c) k)(hn:n<=140737488355328)(hk:k<=n)(hs:n - k<size)(hs2:size<=100)
 (hg:w.cell? ⟨6,0,none⟩=some (.iface u x)):
 Calls Tryz.prog 104 #[.pointer (some ⟨rb,0,none⟩),.int .i64 size,.iface uw xw,may] w fun e w'=>
  ∃ v,e=.returned (.tuple #[.int .i64 0,v])/\Wr w w' v (n:Int) (.iface u x)/\Below w.heap.size w w':=by
 have c1:=hR.c1;go_enter Tryz.func104,Tryz.ntmps104;go_wp2_with fail;refine(next_short a rb n c k size u x w hR hn hk hs hs2 hg).mono ?_;rintro e w1 ⟨v,rfl,⟨pb,rfl,hpb,hblk⟩,hb⟩;go_wp2_with fail;go_ret2;exact⟨_,rfl,⟨pb,rfl,hpb,hblk⟩,hb⟩
theorem number_all(rb b o n c k size:Nat)(l:List Gf.F)(uw:TypeId)(xw:Value)(kf:FuncId)(first caps:Array Value)(m:Bool)(w:World)(hen:∀(args:Array Value) (w:World),(callFunc kf args).run Tryz.prog w=.ok (.enter kf args) w)(hR:Rdr w rb (.slice (some ⟨b,o,none⟩) n c) k)(hl:l.length=n)(hn:n<=c)(hc:c<=9223372036854775807)(hs:1<=size)(hs2:size<=2)(hk:k+size<=n)(hn2:n<=140737488355328)
 (hB:Bs w b o l) (hbr:b≠rb) (hmay:∀ W,But (fun g=>g=rb) w W->Calls Tryz.prog kf (first.push (.int .i64 (numAt l k size:Int))++caps) W fun e W'=>e=.returned (.bool m)/\Below W.heap.size W W'):
 Calls Tryz.prog 104 #[.pointer (some ⟨rb,0,none⟩),.int .i64 size,.iface uw xw,.func (.func kf) first caps] w fun e w'=>
  (if m=true then e=.returned (.tuple #[.int .i64 (numAt l k size:Int),.nilIface]) else ∃ v,e=.returned (.tuple #[.int .i64 0,v])/\Wr w w' v (k:Int) (.iface uw xw))/\Rdr w' rb (.slice (some ⟨b,o,none⟩) n c) (k+size)/\But (fun g=>g=rb) w w':=by
 have c1:=hR.c1;have HL:Hid (l.length=n):=hl;go_enter Tryz.func104,Tryz.ntmps104;go_wp2_with fail;refine(next_ok rb b o n c k size w hR hn hc hs hk hn2).mono ?_;rintro e w1 ⟨rfl,hR1,hb1⟩
 have HB1:Hid (∀ j,j<size->w1.cell? ⟨b,o+k+j,none⟩=some (.int .u8 ((at_ l (k+j)).toNat:Int))):=fun j hj=>by
  have h1:=hB (k+j) (by rw[hl];omega);rw[show o+k+j=o+(k+j) by omega];rw[World.cell?_of_block (hb1.block b (lt_of_cell h1) hbr)];exact h1
 clear hR c1 hB hl;go_wp2_with fail
 go_loopw[13,31] (fun t13 t31 wr=>∃ j:Nat,j<=size/\t13=.int .i64 (numAt l k j:Int)/\t31=.int .i64 j/\wr=w1) (fun _ t _=>size - (intOf t).toNat)
 case atStart=>exact⟨0,by omega,rfl,rfl,rfl⟩
 case round=>
  obtain⟨j,hj,rfl,rfl,rfl⟩:=hrel;by_cases hlt:j<size
  ·have hcj:=HB1.out j hlt
   have hbd:=(at_ l (k+j)).isLt;have hjs:(j:Int)<(size:Int):=by omega
   have hnj:numAt l k j<256:=by
    have h1:=numAt_lt l k j;have:j=0∨j=1:=by omega
    rcases this with rfl|rfl
    ·simp at h1;omega
    ·simpa using h1
   have HO:Hid (bits .or .i64 ((numAt l k j:Int)*256) ((at_ l (k+j)).toNat:Int)=(numAt l k (j+1):Int)):=i64_or_nat _ _ hnj hbd;go_wp2_with fail;refine⟨⟨j+1,by omega,by rw[HO.out],by go_num,trivial⟩,by simp[intOf];omega⟩
  ·obtain rfl:j=size:=by omega
   have HR1:Hid (Rdr wr rb (.slice (some ⟨b,o,none⟩) n c) (k+j)):=hR1;have HB:Hid (But (fun g=>g=rb) w wr):=hb1;have HMAY:=hmay wr hb1;clear hmay hR1 hb1;cases m
   ·go_wp2_with fail
    refine HMAY.mono ?_;rintro e w2 ⟨rfl,hb2⟩;go_wp2_with (go_at_call 41;refine(wrong_any _ _ _ _).mono ?_;rintro e w' ⟨rfl,rfl⟩);go_ret2;have hs2:=hb2.size;have hs1:=HB.out.size;have hrl:=HR1.out.lt;have hbw:But (fun g=>g=rb) w w2:=HB.out.below hb2 (fun i hi h=>absurd (Nat.lt_of_lt_of_le hi hs1) h);refine⟨⟨_,rfl,w2.heap.size,rfl,by omega,heap_alloc_new w2 _⟩,HR1.out.kept ?_,hbw.alloc _⟩;rw[Below.heap_alloc w2 _ rb (by omega)];exact hb2.block rb hrl
   ·go_wp2_with fail
    refine HMAY.mono ?_;rintro e w2 ⟨rfl,hb2⟩;go_wp2_with fail;go_ret2;exact⟨rfl,HR1.out.kept (hb2.block rb HR1.out.lt),HB.out.below hb2 (fun i hi h=>absurd (Nat.lt_of_lt_of_le hi HB.out.size) h)⟩
theorem splice_marked(l:List Gf.F)(n:Nat)(h:l.length=n):splice (enc (List.replicate (n+2) 0#8)).toList 0 (encL l)=(enc (l++[0#8,0#8])).toList:=by
 have e:(encL l).length=n:=by simp[encL,h]
 have e1:(enc (List.replicate (n+2) 0#8)).toList=List.replicate (n+2) (Value.int .u8 0):=by simp[enc]
 unfold splice;rw[e,e1,List.drop_replicate,List.take_zero,List.nil_append,show n+2 - (0+n)=2 by omega];simp[encL,enc,List.replicate]
theorem Bs.cells{w:World}{b o:Nat}{l:List Gf.F}(h:Bs w b o l):∀ j v,(encL l)[j]?=some v->w.cell? ((⟨b,o,none⟩:Addr).add j)=some v:=by
 intro j v hj
 have hlt:j<l.length:=by
  rcases Nat.lt_or_ge j l.length with q|q
  ·exact q
  ·rw[List.getElem?_eq_none (by simpa [encL] using q)]at hj;cases hj
 rw[encL_at hlt]at hj;have hadd:(⟨b,o,none⟩:Addr).add j=⟨b,o+j,none⟩:=by unfold Addr.add;split<;>simp_all
 rw[hadd,h j hlt,hj]
theorem encL_one(l:List Gf.F):∀ u ∈ encL l,u.oneCell'=true:=by
 intro u hu;obtain⟨x,_,rfl⟩:=List.mem_map.1 hu;rfl
theorem Tryz.size_u8:(Tryz.prog.info? 5).map (·.size)=some 1:=by kernel_rfl
def marked(l:List Gf.F):List Gf.F:=l++[0xa5#8,0xa5#8]
theorem marked_set(l:List Gf.F)(n:Nat)(h:l.length=n):((l++[0#8,0#8]).set n (BitVec.ofNat 8 165)).set (n+1) (BitVec.ofNat 8 165)=marked l:=by
 subst h;simp[marked]
theorem bytes_any(hb B n k:Nat)(s:HS)(r:Raw)(ins:List Value)(w:World)(hlen:r.l.length=n)(hn:n<=140737488355000)(hk:k<=1048576)(hH:HAt w hb s)(hI:w.ownsRow B 221 2 s.in_ k ins)(hB:B<=w.heap.size)(hr:RawIn w r):
 Calls Tryz.prog 81 #[.pointer (some ⟨hb,2,none⟩),r.v] w fun e w'=>
  ∃ v',e=.returned (.slice (some ⟨w.heap.size,0,none⟩) n (n+2))/\Blk w' w.heap.size (marked r.l)/\HAt w' hb {s with in_:=v'}/\
   w'.ownsRow B 221 2 v' (k+1) (ins++[.slice (some ⟨w.heap.size,0,none⟩) (n+2) (n+2),r.v])/\
   (∀ b,v'.ownBlock=some b->s.in_.ownBlock=some b∨w.heap.size<b)/\But (fun b=>b=hb∨s.in_.ownBlock=some b) w w':=by
 obtain⟨a,c,hv,ha⟩:=hr;rw[hlen]at hv ha;rw[hv];have HLEN:Hid (r.l.length=n):=hlen;have HH:Hid (HAt w hb s):=hH;have hlt:=hH.lt;obtain⟨il,hil,hl0,hl1,hl2⟩:=Tryz.lent_parts;clear hlen hv hH
 have hmk:∀ W:World,(Instr.makeSlice 33 (.int .i64 ((n:Int)+2)) (.int .i64 ((n:Int)+2))).run Tryz.prog W=.ok (.slice (some ⟨W.heap.size,0,none⟩) (n+2) (n+2)) (W.alloc (.cells (madeCells #[.int .u8 0] (n+2)) 5)):=fun W=>by
  have:=run_make_row' (P:=Tryz.prog) 33 5 (.int .u8 0) 1 Tryz.underlying33 Tryz.info_u8 rfl .i64 .i64 (n+2) (by omega) (by omega) W;rw[show(((n+2:Nat)):Int)=(n:Int)+2 by omega]at this;exact this
 go_enter Tryz.func81,Tryz.ntmps81;obtain⟨X,hX⟩:∃ X,X=encL r.l:=⟨_,rfl⟩;have HX:Hid (X=encL r.l):=hX;have hxl:X.length=n:=by rw[hX];simpa [encL] using HLEN.out
 have HXL:Hid (X.length=n):=hxl;clear hX hxl;go_wp2_with (refine wpList_copy_splice rfl _ _ _ _ rfl 5 Tryz.underlying33 Tryz.size_u8 (some ⟨w.heap.size,0,none⟩) a (n+2) (n+2) n c rfl rfl w.heap.size 0 (enc (List.replicate (n+2) 0#8)).toList 5 ?g1 X ?g2 ?g3 ?g4 ?g5 w.heap.size w ?g6 (Nat.le_refl _) ?_)
 case g1=>exact Blk.made (n+2)
 case g2=>rw[HXL.out];exact(Nat.min_eq_left (by omega)).symm
 case g3=>
  intro h0;obtain⟨b,o,rfl,hbs⟩:=ha (by rw[<- HXL.out];exact h0)
  (first | refine⟨rfl,_,rfl,?_⟩|refine⟨_,rfl,?_⟩)
  rw[HX.out];exact(hbs.below ((Below.refl _ _).alloc (Nat.le_refl _) _) (hbs.lt (by rw[HLEN.out,<- HXL.out];exact h0))).cells
 case g4=>rw[HXL.out];simp[enc]
 case g5=>rw[HX.out];exact encL_one _
 case g6=>exact(Below.refl _ _).alloc (Nat.le_refl _) _
 intro w2 HG2 hB2
 have hG2:Blk w2 w.heap.size (r.l++[0#8,0#8]):=by
  have:=HG2.out;rw[HX.out,splice_marked r.l n HLEN.out]at this;exact this
 have hlt2:=hG2.lt;clear HG2;have hbn:hb≠w.heap.size:=Nat.ne_of_lt hlt
 have hcn:w2.cell? ⟨w.heap.size,n,none⟩=some (.int .u8 0):=by
  have:=hG2.bs n (by simp[HLEN.out]);rw[Nat.zero_add]at this;rw[this];simp[at_,List.getD,HLEN.out]
 have hcn1:w2.cell? ⟨w.heap.size,n+1,none⟩=some (.int .u8 0):=by
  have:=hG2.bs (n+1) (by simp[HLEN.out]);rw[Nat.zero_add]at this;rw[this];simp[at_,List.getD,HLEN.out]
 have hfn:=hG2.frozen;have hH2:HAt w2 hb s:=HH.out.kept (hB2.block hb hlt);have hc0:w2.cell? ⟨hb,2,none⟩=some s.in_:=hH2.cell 0;have hf0:=hH2.frozen;have HH2:Hid (HAt w2 hb s):=hH2;have HG2:Hid (Blk w2 w.heap.size (r.l++[0#8,0#8])):=hG2;clear hH2 hG2;go_wp2_with (at_builtin;refine wpList_append_apart rfl _ _ _ rfl B 221 il (.agg #[.slice none 0 0,.slice none 0 0]) 2 48 Tryz.underlying72 hil hl0 hl1 hl2 rfl (by omega) s.in_ k ins rfl ?c0 ⟨w2.heap.size,0,none⟩ 1 1 [.slice (some ⟨w.heap.size,0,none⟩) (n+2) (n+2),.slice a n c] rfl rfl ?c1 ?c2 (by omega) ?c3 ?c4 ?c5 ?c6 ?_)
 case c0=>exact own_of_block hI (fun g hg=>by
  have h1:=(hI.lt g hg).2;rw[Below.heap_alloc _ _ _ (by simp;omega),Below.heap_setCell _ _ _ _ (by simp;omega),Below.heap_setCell _ _ _ _ (by simp;omega)];exact hB2.block g h1)
 case c1=>
  intro j u hj;have hs0:((w2.setCell ⟨w.heap.size,n,none⟩ (.int .u8 165)).setCell ⟨w.heap.size,n+1,none⟩ (.int .u8 165)).heap.size=w2.heap.size:=by simp
  match j,hj with
  | 0,hj=>
   have:=World.cell?_alloc_at (w:=(w2.setCell ⟨w.heap.size,n,none⟩ (.int .u8 165)).setCell ⟨w.heap.size,n+1,none⟩ (.int .u8 165)) #[.slice (some ⟨w.heap.size,0,none⟩) (n+2) (n+2),.slice a n c] 221 w2.heap.size 0 hs0.symm;exact this.trans hj
  | 1,hj=>
   have:=World.cell?_alloc_at (w:=(w2.setCell ⟨w.heap.size,n,none⟩ (.int .u8 165)).setCell ⟨w.heap.size,n+1,none⟩ (.int .u8 165)) #[.slice (some ⟨w.heap.size,0,none⟩) (n+2) (n+2),.slice a n c] 221 w2.heap.size 1 hs0.symm;exact this.trans hj
  | j+2,hj=>simp at hj
 case c2=>intro u hu;simp at hu;rcases hu with rfl|rfl<;>rfl
 case c3=>unfold maxLen;omega
 case c4=>omega
 case c5=>omega
 case c6=>simp;omega
 intro g cap w3 hown3 hgr3 hlie3 hlt3;have hne3:∀ g,s.in_.ownBlock=some g->g≠hb:=fun g hg=>own_ne hI hg HH.out (by decide)
 have hold:∀ j,j<w2.heap.size->s.in_.ownBlock≠some j->w3.heap[j]?=((w2.setCell ⟨w.heap.size,n,none⟩ (.int .u8 165)).setCell ⟨w.heap.size,n+1,none⟩ (.int .u8 165)).heap[j]?:=fun j hj hne=>by
  rw[grown_block hgr3 (by simp;omega) hne,Below.heap_alloc _ _ _ (by simpa using hj)]
 have hG3:Blk w3 w.heap.size (marked r.l):=by
  have h1:=(HG2.out.setNat n 165 (by omega)).setNat (n+1) 165 (by omega);rw[marked_set r.l n HLEN.out]at h1;exact h1.kept (hold _ hlt2 (fun q=>by have:=(hI.lt _ q).2;omega))
 have hH3:HAt w3 hb s:=HH2.out.kept (by
  rw[hold hb (by omega) (fun q=>hne3 hb q rfl),Below.heap_setCell _ _ _ _ hbn,Below.heap_setCell _ _ _ _ hbn])
 have hg:g≠hb:=by
  rcases hlie3 with q|⟨q,_⟩
  ·exact hne3 g q
  ·rw[q];omega
 have hpl:∀ b,(Value.slice (some ⟨g,0,none⟩) (k+1) cap).ownBlock=some b->s.in_.ownBlock=some b∨w.heap.size<b:=by
  intro b hb';have e:g=b:=by simpa [Value.ownBlock] using hb'
  subst e;rcases hlie3 with q|⟨q,_⟩
  ·exact .inl q
  ·right;rw[q];omega
 have hbut:But (fun b=>b=hb∨s.in_.ownBlock=some b) w w3:=
  ((((((But.refl _ w).below hB2 (fun i h1 h2=>absurd h1 h2)).setCell (p:=⟨w.heap.size,n,none⟩) (.inr (Nat.le_refl _)) _).setCell (p:=⟨w.heap.size,n+1,none⟩) (.inr (Nat.le_refl _)) _).alloc _).grown hgr3 (fun k hk=>.inl (.inr hk)))
 have hfr3:w3.frozen? ⟨hb,2,none⟩=false:=hH3.frozen 2;have hc3:w3.cell? ⟨hb,2,none⟩=some s.in_:=hH3.cell 0;clear hgr3 hlie3 hold;go_wp2_with fail;go_ret
 exact⟨_,rfl,hG3.kept (Below.heap_setCell _ _ _ _ (fun q=>hbn q.symm)),hH3.set0 _,own_of_block hown3 (fun b hb'=>Below.heap_setCell _ _ _ _ (by
  have e:g=b:=by simpa [Value.ownBlock] using hb'
  rw[<- e];exact hg)),hpl,hbut.setCell (.inl (.inl rfl)) _⟩
def gat(gs:List Nat)(i:Nat):Nat:=gs.getD i 0
def lendCells(rs:List Raw)(gs:List Nat)(n j:Nat):Array Value:=
 ((List.range (n+2)).map fun i=>if i<j then Value.slice (some ⟨gat gs i,0,none⟩) (wat rs i).l.length ((wat rs i).l.length+2) else Value.slice none 0 0).toArray
def lentCells(rs:List Raw)(gs:List Nat):Nat->List Value
 | 0=>[]
 | k+1=>lentCells rs gs k++[Value.slice (some ⟨gat gs k,0,none⟩) ((wat rs k).l.length+2) ((wat rs k).l.length+2),(wat rs k).v]
theorem lentCells_length(rs:List Raw)(gs:List Nat)(k:Nat):(lentCells rs gs k).length=k*2:=by
 induction k with
 | zero=>rfl
 | succ k ih=>simp only[lentCells,List.length_append,ih,List.length_cons,List.length_nil];omega
theorem lentCells_all(rs:List Raw)(gs:List Nat)(k i:Nat)(hi:i<k):(lentCells rs gs k)[i*2]?=some (.slice (some ⟨gat gs i,0,none⟩) ((wat rs i).l.length+2) ((wat rs i).l.length+2)):=by
 induction k with
 | zero=>omega
 | succ k ih=>
  have hl:=lentCells_length rs gs k;simp only[lentCells];by_cases q:i<k
  ·rw[List.getElem?_append_left (by omega)];exact ih q
  ·obtain rfl:i=k:=by omega
   rw[List.getElem?_append_right (by omega),hl,Nat.sub_self];rfl
theorem lentCells_want(rs:List Raw)(gs:List Nat)(k i:Nat)(hi:i<k):(lentCells rs gs k)[i*2+1]?=some (wat rs i).v:=by
 induction k with
 | zero=>omega
 | succ k ih=>
  have hl:=lentCells_length rs gs k;simp only[lentCells];by_cases q:i<k
  ·rw[List.getElem?_append_left (by omega)];exact ih q
  ·obtain rfl:i=k:=by omega
   rw[List.getElem?_append_right (by omega),hl,show i*2+1 - i*2=1 by omega];rfl
structure Lent(w:World)(B:Nat)(v:Value)(rs:List Raw)(gs:List Nat)(k:Nat):Prop where
 len:gs.length=k
 own:w.ownsRow B 221 2 v k (lentCells rs gs k)
 low:∀ i,i<k->B<=gat gs i
 blk:∀ i,i<k->Blk w (gat gs i) (marked (wat rs i).l)
 apart:∀ i j,i<k->j<k->gat gs i=gat gs j->i=j
theorem Lent.kept{w w':World}{B:Nat}{v:Value}{rs:List Raw}{gs:List Nat}{k:Nat}(h:Lent w B v rs gs k){S:Nat->Prop}(hb:But S w w')(h1:∀ g,v.ownBlock=some g->¬ S g)(h2:∀ i,i<k->¬ S (gat gs i)):Lent w' B v rs gs k:=
 ⟨h.len,hb.own h.own h1,h.low,fun i hi=>(h.blk i hi).kept (hb.block _ (h.blk i hi).lt (h2 i hi)),h.apart⟩
theorem RawIn.but{w w':World}{r:Raw}{S:Nat->Prop}(h:RawIn w r)(hb:But S w w')(hn:0<r.l.length->∀ g,r.v.ownBlock=some g->¬ S g):RawIn w' r:=by
 obtain⟨a,c,h1,h2⟩:=h;refine⟨a,c,h1,fun hl=>?_⟩;obtain⟨b,o,rfl,h4⟩:=h2 hl;refine⟨b,o,rfl,fun i hi=>?_⟩;rw[World.cell?_of_block (hb.block b (h4.lt hl) (hn hl b (by rw[h1];rfl)))];exact h4 i hi
def ZBlk(w:World)(g:Nat)(l:List Int):Prop:=w.heap[g]?=some (.cells (encZ l).toArray 3 (0,0))
theorem ZBlk.zs{w:World}{g:Nat}{l:List Int}(h:ZBlk w g l):Zs w g 0 l:=by
 intro i hi;rw[cell_of_row w g (0+i) _ _ _ h];simp[encZ,zat,List.getD,hi]
theorem ZBlk.kept{w w':World}{g:Nat}{l:List Int}(h:ZBlk w g l)(hk:w'.heap[g]?=w.heap[g]?):ZBlk w' g l:=by unfold ZBlk;rw[hk];exact h
theorem ZBlk.lt{w:World}{g:Nat}{l:List Int}(h:ZBlk w g l):g<w.heap.size:=(Array.getElem?_eq_some_iff.1 h).1
def markedZ(l:List Int):List Int:=l++[-7,-7]
theorem cell_one_at(w:World)(v:Value)(t:TypeId)(H:Nat)(hH:H=w.heap.size):∀ j u,[v][j]?=some u->(w.alloc (.cells #[v] t)).cell? ((⟨H,0,none⟩:Addr).add j)=some u:=by
 subst hH;exact cell_one_new w v t
structure RowsIn(w:World)(B B2:Nat)(v:Value)(rs:List Raw)(gs:List Nat)(k X lb lo:Nat)(al:Option Addr)(kr:Nat):Prop where
 one:kr<=1
 own:w.ownsRow B 40 1 v kr (List.replicate kr (.slice (some ⟨X,0,none⟩) (k+2) (k+2)))
 list:0<kr->w.heap[X]?=some (.cells (lendCells rs gs k k) 33 (0,0))/\B<=X/\X<B2/\lb<B/\(0<k->al=some ⟨lb,lo,none⟩)/\∀ i,i<k->w.cell? ⟨lb,lo+i,none⟩=some (wat rs i).v
structure IntsIn(w:World)(B B2:Nat)(vi vw:Value)(l:List Int)(n Z zb zo zc:Nat)(az:Option Addr)(ki:Nat):Prop where
 one:ki<=1
 ints:w.ownsRow B 75 1 vi ki (List.replicate ki (.slice (some ⟨Z,0,none⟩) (n+2) (n+2)))
 want:w.ownsRow B 75 1 vw ki (List.replicate ki (.slice az n zc))
 blk:0<ki->ZBlk w Z (markedZ l)/\B<=Z/\Z<B2/\l.length=n/\n<=14073748835500/\zb<B/\(0<n->az=some ⟨zb,zo,none⟩)/\Zs w zb zo l
def Owned(w:World)(B:Nat)(rs:List Raw)(k:Nat):Prop:=∀ i,i<k->RawIn w (wat rs i)/\(wat rs i).l.length<=140737488355000/\(0<(wat rs i).l.length->∀ g,(wat rs i).v.ownBlock=some g->g<B)
theorem Owned.but{w w':World}{B:Nat}{rs:List Raw}{k:Nat}{S:Nat->Prop}(h:Owned w B rs k)(hb:But S w w')(hS:∀ b,S b->B<=b):Owned w' B rs k:=
 fun i hi=>⟨(h i hi).1.but hb (fun h0 g hg q=>by have:=hS g q;have:=(h i hi).2.2 h0 g hg;omega),(h i hi).2⟩
theorem IntsIn.but{w w':World}{B B2 n Z zb zo zc ki:Nat}{vi vw:Value}{l:List Int}{az:Option Addr}{S:Nat->Prop}(h:IntsIn w B B2 vi vw l n Z zb zo zc az ki)(hb:But S w w')
 (h1:∀ g,vi.ownBlock=some g->¬ S g) (h2:∀ g,vw.ownBlock=some g->¬ S g) (h3:0<ki->¬ S Z) (h4:∀ b,S b->B<=b):IntsIn w' B B2 vi vw l n Z zb zo zc az ki:=
 ⟨h.one,hb.own h.ints h1,hb.own h.want h2,fun hk=>by
  obtain⟨q1,q2,q3,q4,q5,q6,q7,q8⟩:=h.blk hk
  exact⟨q1.kept (hb.block Z q1.lt (h3 hk)),q2,q3,q4,q5,q6,q7,fun i hi=>by
   rw[World.cell?_of_block (hb.block zb (q8.lt (by omega)) (fun q=>by have:=h4 zb q;omega))];exact q8 i hi⟩⟩
theorem own_len{w:World}{B n:Nat}{e:TypeId}{sz:Nat}{v:Value}{xs:List Value}(h:w.ownsRow B e sz v n xs):∃ a c,v=.slice a n c:=by
 rcases h.2 with⟨h1,h2⟩|⟨g,cap,cur,h1,_⟩
 ·exact⟨_,_,by rw[h1,h2]⟩
 ·exact⟨_,_,h1⟩
theorem own_cell{w:World}{B n sz:Nat}{e:TypeId}{v:Value}{xs:List Value}(h:w.ownsRow B e sz v n xs){g:Nat}(hg:v.ownBlock=some g){j:Nat}{u:Value}(hj:xs[j]?=some u):w.cell? ⟨g,j,none⟩=some u:=by
 have h1:=h.cells hg j u hj;have hadd:(⟨g,0,none⟩:Addr).add j=⟨g,j,none⟩:=by unfold Addr.add;split<;>simp_all
 rw[hadd]at h1;exact h1
theorem Blk.bsN{w:World}{g:Nat}{l:List Gf.F}(h:Blk w g l)(n:Nat):Bs w g 0 (l.take n):=by
 intro i hi
 have hi2:i<l.length:=by
  have:(l.take n).length<=l.length:=by simp;omega
  omega
 rw[h.bs i hi2];have:i<n:=by simp at hi;omega
 simp[at_,List.getD,this]
theorem marked_take(l:List Gf.F):(marked l).take l.length=l:=by simp[marked]
def KOk(w:World)(v:Value)(n m:Nat):Prop:=
 (∃ c,v=.slice none 0 c/\n=0)∨(∃ g c cs,v=.slice (some ⟨g,0,none⟩) n c/\w.heap[g]?=some (.cells cs 5 (0,0))/\∀ j,j<n->cs[j]?=some (.int .u8 (m:Int)))
theorem KOk.but{w w':World}{v:Value}{n m:Nat}{S:Nat->Prop}(h:KOk w v n m)(hb:But S w w')(hn:∀ g,v.ownBlock=some g->¬ S g):KOk w' v n m:=by
 rcases h with h|⟨g,c,cs,h1,h2,h3⟩
 ·exact .inl h
 ·exact .inr ⟨g,c,cs,h1,by rw[hb.block g (Array.getElem?_eq_some_iff.1 h2).1 (hn g (by rw[h1];rfl))];exact h2,h3⟩
theorem KOk.kept{w w':World}{v:Value}{n m:Nat}(h:KOk w v n m)(hk:∀ g,v.ownBlock=some g->w'.heap[g]?=w.heap[g]?):KOk w' v n m:=by
 rcases h with h|⟨g,c,cs,h1,h2,h3⟩
 ·exact .inl h
 ·exact .inr ⟨g,c,cs,h1,by rw[hk g (by rw[h1];rfl)];exact h2,h3⟩
theorem KOk.lt{w:World}{v:Value}{n m g:Nat}(h:KOk w v n m)(hg:v.ownBlock=some g):g<w.heap.size/\∃ cs,w.heap[g]?=some (.cells cs 5 (0,0)):=by
 rcases h with⟨c,h1,_⟩|⟨g',c,cs,h1,h2,h3⟩
 ·rw[h1]at hg;simp[Value.ownBlock]at hg
 ·rw[h1]at hg
  simp[Value.ownBlock]at hg;subst hg;exact⟨(Array.getElem?_eq_some_iff.1 h2).1,cs,h2⟩
theorem own_kok{w:World}{B n m:Nat}{v:Value}(h:w.ownsRow B 5 1 v n (List.replicate n (.int .u8 (m:Int)))):KOk w v n m:=by
 rcases h.2 with⟨h1,h2⟩|⟨g,cap,cur,h1,_,h2,h3,_,h4,h5⟩
 ·exact .inl ⟨0,h1,h2⟩
 ·refine .inr ⟨g,cap,cur,h1,h2,fun j hj=>?_⟩
  rw[Nat.mul_one]at h5;have h6:(cur.toList.take n)[j]?=some (.int .u8 (m:Int)):=by rw[h5];simp[hj]
  rw[List.getElem?_take,if_pos hj]at h6;simpa using h6
theorem own_kok_less{w:World}{B n k m g c:Nat}{v:Value}(h:w.ownsRow B 5 1 v n (List.replicate n (.int .u8 (m:Int))))(hg:v.ownBlock=some g)(hk:k<=n):KOk w (.slice (some ⟨g,0,none⟩) k c) k m:=by
 rcases own_kok h with⟨c',h1,_⟩|⟨g',c',cs,h1,h2,h3⟩
 ·rw[h1]at hg;simp[Value.ownBlock]at hg
 ·rw[h1]at hg
  simp[Value.ownBlock]at hg;subst hg;exact .inr ⟨g',c,cs,rfl,h2,fun j hj=>h3 j (by omega)⟩
structure Ent where
 v:Value
 n:Nat
 m:Nat
structure Outs(w:World)(B:Nat)(vo vm:Value)(es:List Ent):Prop where
 own:w.ownsRow B 33 1 vo es.length (es.map (·.v))
 marks:w.ownsRow B 3 1 vm es.length (es.map fun e=>.int .i64 (e.m:Int))
 each:∀ e ∈ es,KOk w e.v e.n e.m/\e.m<250/\e.n<=140737488355328
theorem Outs.but{w w':World}{B:Nat}{vo vm:Value}{es:List Ent}{S:Nat->Prop}(h:Outs w B vo vm es)(hb:But S w w')(h1:∀ g,vo.ownBlock=some g->¬ S g)(h2:∀ g,vm.ownBlock=some g->¬ S g)(h3:∀ e ∈ es,∀ g,e.v.ownBlock=some g->¬ S g):Outs w' B vo vm es:=
 ⟨hb.own h.own h1,hb.own h.marks h2,fun e he=>⟨(h.each e he).1.but hb (h3 e he),(h.each e he).2⟩⟩
theorem own_set{w:World}{B g n c i:Nat}{e:TypeId}{xs:List Value}{u:Value}(h:w.ownsRow B e 1 (.slice (some ⟨g,0,none⟩) n c) n xs):(w.setCell ⟨g,i,none⟩ u).ownsRow B e 1 (.slice (some ⟨g,0,none⟩) n c) n (xs.set i u):=by
 have hl:=h.1;rcases h.2 with⟨h1,_⟩|⟨g',cap,cur,h1,h2,h3,h4,h5,h6,h7⟩
 ·cases h1
 ·simp only[Value.slice.injEq,Option.some.injEq,Addr.mk.injEq]at h1
  obtain⟨⟨rfl,_⟩,_,rfl⟩:=h1;refine⟨by simpa using hl,.inr ⟨g,c,cur.setIfInBounds i u,rfl,h2,heap_setCell_same _ _ _ _ _ _ h3,h4,h5,by simpa using h6,?_⟩⟩;rw[<- h7,Array.toList_setIfInBounds,List.take_set]
theorem own_frozen{w:World}{B n sz:Nat}{e:TypeId}{v:Value}{xs:List Value}(h:w.ownsRow B e sz v n xs){g:Nat}(hg:v.ownBlock=some g)(i:Nat):w.frozen? ⟨g,i,none⟩=false:=by
 obtain⟨cur,hc⟩:=own_block h hg;exact frozen_of_row w g i _ _ hc
theorem own_own_ne{w:World}{B B' n n' sz sz':Nat}{e e':TypeId}{v v':Value}{xs xs':List Value}(h:w.ownsRow B e sz v n xs)(h':w.ownsRow B' e' sz' v' n' xs')(hne:e≠e'):∀ g,v.ownBlock=some g->v'.ownBlock≠some g:=by
 intro g hg hg';obtain⟨cur,hc⟩:=own_block h' hg';exact own_ne h hg hc hne rfl
theorem KOk.ne_own{w:World}{v:Value}{n m:Nat}(h:KOk w v n m){B n' sz':Nat}{e':TypeId}{v':Value}{xs':List Value}(h':w.ownsRow B e' sz' v' n' xs')(hne:e'≠5):∀ g,v.ownBlock=some g->v'.ownBlock≠some g:=by
 intro g hg hg';obtain⟨_,cs,hc⟩:=h.lt hg;exact own_ne h' hg' hc hne rfl
theorem KOk.ne_hands{w:World}{v:Value}{n m hb:Nat}{s:HS}(h:KOk w v n m)(hH:HAt w hb s):∀ g,v.ownBlock=some g->g≠hb:=by
 intro g hg q;obtain⟨_,cs,hc⟩:=h.lt hg;unfold HAt at hH;rw[q,hH]at hc;simp only[Option.some.injEq,Obj.cells.injEq]at hc;exact absurd hc.2.1 (by decide)
structure KS(w wr:World)(hb B Bv N n M:Nat)(s:HS)(es:List Ent)(v lv vo vm:Value)(eo em:List Ent)(k:Nat):Prop where
 hands:HAt wr hb {s with n:=(N:Int)+1,out:=vo,marks:=vm}
 own:wr.ownsRow B 33 1 vo eo.length (eo.map (·.v))
 marks:wr.ownsRow B 3 1 vm em.length (em.map fun e=>.int .i64 (e.m:Int))
 each:∀ e ∈ eo,KOk wr e.v e.n e.m/\e.m<250/\e.n<=140737488355328
 row:wr.ownsRow Bv 5 1 lv (n+k) (List.replicate (n+k) (.int .u8 (M:Int)))
 outAt:∀ b,vo.ownBlock=some b->s.out.ownBlock=some b∨w.heap.size<=b
 marksAt:∀ b,vm.ownBlock=some b->s.marks.ownBlock=some b∨w.heap.size<=b
 lvAt:∀ b,lv.ownBlock=some b->v.ownBlock=some b∨w.heap.size<=b
 newAt:∃ es',eo=es++es'/\∀ e ∈ es',∀ b,e.v.ownBlock=some b->v.ownBlock=some b∨w.heap.size<=b
 same:∀ e ∈ eo,∀ g,e.v.ownBlock=some g->lv.ownBlock=some g->e.m=M/\e.n<=n+k
 but:But (fun b=>b=hb∨s.out.ownBlock=some b∨s.marks.ownBlock=some b∨v.ownBlock=some b) w wr
theorem KS.pushOut{w wr w2:World}{hb B Bv N n M:Nat}{s:HS}{es:List Ent}{v lv vo vm vo':Value}{eo em:List Ent}{k:Nat}(h:KS w wr hb B Bv N n M s es v lv vo vm eo em k)(hM:M<250)(hnk:n+k<=140737488355328)
 (hb2:But (fun b=>vo.ownBlock=some b) wr w2) (ho2:w2.ownsRow B 33 1 vo' (eo.length+1) (eo.map (·.v)++[lv])) (hat:∀ b,vo'.ownBlock=some b->vo.ownBlock=some b∨wr.heap.size<=b):
 KS w (w2.setCell ⟨hb,7,none⟩ vo') hb B Bv N n M s es v lv vo' vm (eo++[⟨lv,n+k,M⟩]) em k:=by
 have hs:=h.but.size;have hvo:∀ b,vo.ownBlock=some b->b≠hb:=fun b hq=>own_ne h.own hq h.hands (by decide)
 have hb3:But (fun b=>vo.ownBlock=some b∨b=hb) wr (w2.setCell ⟨hb,7,none⟩ vo'):=(hb2.wide (fun _ _ q=>.inl q)).setCell (.inl (.inr rfl)) _;have hH2:HAt w2 hb {s with n:=(N:Int)+1,out:=vo,marks:=vm}:=h.hands.kept (hb2.block hb h.hands.lt (fun q=>hvo hb q rfl))
 have farK:∀ u a b,KOk wr u a b->∀ g,u.ownBlock=some g->¬(vo.ownBlock=some g∨g=hb):=fun u a b hu g hg q=>by
  rcases q with q|q
  ·exact hu.ne_own h.own (by decide) g hg q
  ·exact hu.ne_hands h.hands g hg q
 have hrow:(w2.setCell ⟨hb,7,none⟩ vo').ownsRow Bv 5 1 lv (n+k) (List.replicate (n+k) (.int .u8 (M:Int))):=hb3.own h.row (farK _ _ _ (own_kok h.row));refine⟨hH2.set5 _,?_,hb3.own h.marks (fun g hg q=>?_),fun e he=>?_,hrow,fun b hq=>?_,h.marksAt,h.lvAt,?_,fun e he=>?_,h.but.then hb3 (fun b hlt q=>?_)⟩
 ·have:=own_of_block ho2 (fun b hq=>Below.heap_setCell w2 ⟨hb,7,none⟩ vo' b (own_ne ho2 hq hH2 (by decide)))
  simpa using this
 ·rcases q with q|q
  ·exact own_own_ne h.marks h.own (by decide) g hg q
  ·exact own_ne h.marks hg h.hands (by decide) q
 ·rcases List.mem_append.1 he with he|he
  ·exact⟨(h.each e he).1.but hb3 (farK _ _ _ (h.each e he).1),(h.each e he).2⟩
  ·obtain rfl:=List.mem_singleton.1 he
   exact⟨own_kok hrow,hM,hnk⟩
 ·rcases hat b hq with q|q
  ·exact h.outAt b q
  ·right;omega
 ·obtain⟨es',q1,q2⟩:=h.newAt
  refine⟨es'++[⟨lv,n+k,M⟩],by rw[q1,List.append_assoc],fun e he=>?_⟩;rcases List.mem_append.1 he with he|he
  ·exact q2 e he
  ·obtain rfl:=List.mem_singleton.1 he
   exact h.lvAt
 ·rcases List.mem_append.1 he with he|he
  ·exact h.same e he
  ·obtain rfl:=List.mem_singleton.1 he
   exact fun g _ _=>⟨rfl,Nat.le_refl _⟩
 ·rcases q with q|q
  ·rcases h.outAt b q with q|q
   ·exact .inr (.inl q)
   ·omega
  ·exact .inl q
theorem KS.pushMark{w wr w2:World}{hb B Bv N n M:Nat}{s:HS}{es:List Ent}{v lv vo vm vm':Value}{eo em:List Ent}{k:Nat}(h:KS w wr hb B Bv N n M s es v lv vo vm eo em k)(e0:Ent)(he0:e0.m=M)
 (hb2:But (fun b=>vm.ownBlock=some b) wr w2) (ho2:w2.ownsRow B 3 1 vm' (em.length+1) (em.map (fun e=>.int .i64 (e.m:Int))++[.int .i64 M])) (hat:∀ b,vm'.ownBlock=some b->vm.ownBlock=some b∨wr.heap.size<=b):
 KS w (w2.setCell ⟨hb,8,none⟩ vm') hb B Bv N n M s es v lv vo vm' eo (em++[e0]) k:=by
 have hs:=h.but.size;have hvm:∀ b,vm.ownBlock=some b->b≠hb:=fun b hq=>own_ne h.marks hq h.hands (by decide)
 have hb3:But (fun b=>vm.ownBlock=some b∨b=hb) wr (w2.setCell ⟨hb,8,none⟩ vm'):=(hb2.wide (fun _ _ q=>.inl q)).setCell (.inl (.inr rfl)) _;have hH2:HAt w2 hb {s with n:=(N:Int)+1,out:=vo,marks:=vm}:=h.hands.kept (hb2.block hb h.hands.lt (fun q=>hvm hb q rfl))
 have farK:∀ u a b,KOk wr u a b->∀ g,u.ownBlock=some g->¬(vm.ownBlock=some g∨g=hb):=fun u a b hu g hg q=>by
  rcases q with q|q
  ·exact hu.ne_own h.marks (by decide) g hg q
  ·exact hu.ne_hands h.hands g hg q
 refine⟨hH2.set6 _,hb3.own h.own (fun g hg q=>?_),?_,fun e he=>⟨(h.each e he).1.but hb3 (farK _ _ _ (h.each e he).1),(h.each e he).2⟩,hb3.own h.row (farK _ _ _ (own_kok h.row)),h.outAt,fun b hq=>?_,h.lvAt,h.newAt,h.same,h.but.then hb3 (fun b hlt q=>?_)⟩
 ·rcases q with q|q
  ·exact own_own_ne h.own h.marks (by decide) g hg q
  ·exact own_ne h.own hg h.hands (by decide) q
 ·have:=own_of_block ho2 (fun b hq=>Below.heap_setCell w2 ⟨hb,8,none⟩ vm' b (own_ne ho2 hq hH2 (by decide)))
  simpa [he0] using this
 ·rcases hat b hq with q|q
  ·exact h.marksAt b q
  ·right;omega
 ·rcases q with q|q
  ·rcases h.marksAt b q with q|q
   ·exact .inr (.inr (.inl q))
   ·omega
  ·exact .inl q
theorem KS.more{w wr w2:World}{hb B Bv N n M g cap:Nat}{s:HS}{es:List Ent}{v lv vo vm:Value}{eo em:List Ent}{k:Nat}(h:KS w wr hb B Bv N n M s es v lv vo vm eo em k)
 (hb2:But (fun b=>lv.ownBlock=some b) wr w2) (ho2:w2.ownsRow Bv 5 1 (.slice (some ⟨g,0,none⟩) (n+k+1) cap) (n+k+1) (List.replicate (n+k) (.int .u8 (M:Int))++[.int .u8 (M:Int)]))
 (hat:lv.ownBlock=some g∨wr.heap.size<=g/\∀ j,j<wr.heap.size->w2.heap[j]?=wr.heap[j]?):
 KS w w2 hb B Bv N n M s es v (.slice (some ⟨g,0,none⟩) (n+k+1) cap) vo vm eo em (k+1):=by
 have hs:=h.but.size
 have hrep:List.replicate (n+k) (Value.int .u8 (M:Int))++[.int .u8 (M:Int)]=List.replicate (n+(k+1)) (.int .u8 (M:Int)):=by
  rw[<- Nat.add_assoc,List.replicate_succ']
 rw[hrep]at ho2;have hlv:=own_kok h.row;refine⟨h.hands.kept (hb2.block hb h.hands.lt (fun q=>hlv.ne_hands h.hands hb q rfl)),hb2.own h.own (own_own_ne h.own h.row (by decide)),hb2.own h.marks (own_own_ne h.marks h.row (by decide)),fun e he=>?_,ho2,h.outAt,h.marksAt,fun b hq=>?_,h.newAt,fun e he g' hg' hl=>?_,h.but.then hb2 (fun b hlt q=>?_)⟩
 ·obtain⟨h1,h2⟩:=h.each e he
  refine⟨?_,h2⟩;rcases hat with q|⟨q,hall⟩
  ·by_cases p:e.v.ownBlock=some g
   ·obtain⟨e1,e2⟩:=h.same e he g p q
    rcases h1 with⟨c,q1,q2⟩|⟨g',c,cs,q1,q2,q3⟩
    ·rw[q1]at p;simp[Value.ownBlock]at p
    ·have e3:g'=g:=by rw[q1]at p;simpa [Value.ownBlock] using p
     subst e3;rw[q1,e1];exact own_kok_less ho2 (by rfl) (by omega)
   ·exact h1.but hb2 (fun g' hg' r=>p (by rw[hg',<- q,r]))
  ·exact h1.kept (fun g' hg'=>hall g' (h1.lt hg').1)
 ·have e:g=b:=by simpa [Value.ownBlock] using hq
  subst e;rcases hat with q|⟨q,_⟩
  ·exact h.lvAt g q
  ·right;omega
 ·have e3:g=g':=by simpa [Value.ownBlock] using hl
  subst e3;rcases hat with q|⟨q,_⟩
  ·obtain⟨e1,e2⟩:=h.same e he g hg' q
   exact⟨e1,by omega⟩
  ·have:=((h.each e he).1.lt hg').1;omega
 ·rcases h.lvAt b q with q|q
  ·exact .inr (.inr (.inr q))
  ·omega
structure KeptAs(w w':World)(hb B N:Nat)(s:HS)(es es':List Ent)(v vo vm:Value):Prop where
 hands:HAt w' hb {s with n:=(N:Int)+1,out:=vo,marks:=vm}
 outs:Outs w' B vo vm (es++es')
 four:es'.length=4
 outAt:∀ b,vo.ownBlock=some b->s.out.ownBlock=some b∨w.heap.size<=b
 marksAt:∀ b,vm.ownBlock=some b->s.marks.ownBlock=some b∨w.heap.size<=b
 newAt:∀ e ∈ es',∀ b,e.v.ownBlock=some b->v.ownBlock=some b∨w.heap.size<=b
 but:But (fun b=>b=hb∨s.out.ownBlock=some b∨s.marks.ownBlock=some b∨v.ownBlock=some b) w w'
theorem KS.sees{w wr w4:World}{hb B Bv N n M:Nat}{s:HS}{es:List Ent}{v lv vo vm:Value}{eo em:List Ent}{k:Nat}{o:Obj}(h:KS w wr hb B Bv N n M s es v lv vo vm eo em k)(hg:(wr.alloc o).drew.grownBy w4 vm.ownBlock):
 w4.cell? ⟨hb,8,none⟩=some vm/\w4.cell? ⟨hb,6,none⟩=some (.int .i64 ((N:Int)+1))/\w4.frozen? ⟨hb,8,none⟩=false:=by
 have hk:w4.heap[hb]?=wr.heap[hb]?:=by
  rw[grown_block hg (by have:=h.hands.lt;simp;omega) (fun q=>own_ne h.marks q h.hands (by decide) rfl)];exact Below.heap_alloc wr o hb h.hands.lt
 have hH:=h.hands.kept hk;exact⟨hH.cell 6,hH.cell 4,hH.frozen 8⟩
theorem fill_step(xs:List Value)(u:Value)(i n:Nat)(hl:xs.length=n)(hi:i<n):(List.replicate i u++xs.drop i).set i u=List.replicate (i+1) u++xs.drop (i+1):=by
 rw[List.set_append_right _ _ (by simp),List.length_replicate,Nat.sub_self,List.drop_eq_getElem_cons (by omega),List.set_cons_zero,List.replicate_succ',List.append_assoc];rfl
theorem fill_at(xs:List Value)(u:Value)(i n:Nat)(hl:xs.length=n)(hi:i<n):∃ x,(List.replicate i u++xs.drop i)[i]?=some x:=by
 rw[List.getElem?_append_right (by simp),List.length_replicate,Nat.sub_self,List.getElem?_drop,Nat.add_zero];exact⟨xs[i],List.getElem?_eq_getElem (by omega)⟩
theorem keep_any(hb B Bv N n:Nat)(s:HS)(es:List Ent)(v:Value)(xs:List Value)(w:World)(hN:s.n=(N:Int))(hN2:N<=1000000000)(hH:HAt w hb s)(hO:Outs w B s.out s.marks es)(hes:es.length<=10000000000)(hB:B<=w.heap.size)(hn:n<=14073748835500)
 (hv:w.ownsRow Bv 5 1 v n xs) (hBv:Bv<=w.heap.size) (hfar:∀ e ∈ es,∀ g,v.ownBlock=some g->e.v.ownBlock≠some g):
 Calls Tryz.prog 54 #[.pointer (some ⟨hb,2,none⟩),v] w fun e w'=>
  e=.returned (.tuple #[])/\∃ es' vo vm,KeptAs w w' hb B N s es es' v vo vm:=by
 have hc4:w.cell? ⟨hb,6,none⟩=some (.int .i64 N):=by rw[hH.cell 4,<- hN];rfl
 have hf:=hH.frozen;have HH:Hid (HAt w hb s):=hH;have hlt:=hH.lt;obtain⟨a,c,hva⟩:=own_len hv;obtain⟨M,hM⟩:∃ M:Nat,M=(N+1)%250:=⟨_,rfl⟩;have hM2:((N:Int)+1)%250=(M:Int):=by omega
 have hM3:M<250:=by omega
 have HM:Hid (M=(N+1)%250):=hM;have HV:Hid (v=.slice a n c):=hva;clear hM hN hH;rw[hva];clear hva;go_enter Tryz.func54,Tryz.ntmps54;go_wp2_with fail;have hOne:∀ g,v.ownBlock=some g->g≠hb:=fun g hg=>own_ne hv hg HH.out (by decide)
 have HH1:Hid (HAt (w.setCell ⟨hb,6,none⟩ (.int .i64 ((N:Int)+1))) hb {s with n:=(N:Int)+1}):=HH.out.set4 _;have hb1:But (fun b=>b=hb) w (w.setCell ⟨hb,6,none⟩ (.int .i64 ((N:Int)+1))):=(But.refl _ _).setCell (S:=fun b=>b=hb) (.inl rfl) _;have hO1:=hO.but hb1 (fun g hg q=>own_ne hO.own hg HH.out (by decide) q) (fun g hg q=>own_ne hO.marks hg HH.out (by decide) q) (fun e he g hg q=>(hO.each e he).1.ne_hands HH.out g hg q);have hv1:=hb1.own hv hOne;have hbS:But (fun b=>b=hb∨s.out.ownBlock=some b∨s.marks.ownBlock=some b∨v.ownBlock=some b) w (w.setCell ⟨hb,6,none⟩ (.int .i64 ((N:Int)+1))):=hb1.wide (fun b _ q=>.inl q);have hxl:xs.length=n:=by simpa using hv.1
 have HXL:Hid (xs.length=n):=hxl;have HFAR:Hid (∀ e ∈ es,∀ g,v.ownBlock=some g->e.v.ownBlock≠some g):=hfar;clear hxl hO hv hb1 hfar
 go_loopw[5] (fun t wr=>∃(i:Nat),i<=n/\t=.int .i64 i/\Hid (HAt wr hb {s with n:=(N:Int)+1})/\Outs wr B s.out s.marks es/\wr.ownsRow Bv 5 1 v n (List.replicate i (.int .u8 (M:Int))++xs.drop i)/\But (fun b=>b=hb∨s.out.ownBlock=some b∨s.marks.ownBlock=some b∨v.ownBlock=some b) w wr) (fun t _=>n - (intOf t).toNat)
 case atStart=>exact⟨0,by omega,rfl,HH1,hO1,by simpa using hv1,hbS⟩
 case round=>
  clear HH1 hO1 hv1 hbS hc4 hf;obtain⟨i,hi,rfl,HHr,hOr,hvr,hbr⟩:=hrel;by_cases hlt2:i<n
  ·obtain⟨g,c',hvg,_,_⟩:=hvr.form (by omega)
   have e1:(Value.slice a n c)=.slice (some ⟨g,0,none⟩) n c':=by rw[<- HV.out,hvg]
   simp only[Value.slice.injEq]at e1;obtain⟨rfl,_,rfl⟩:=e1;obtain⟨x,hx⟩:=fill_at xs (.int .u8 (M:Int)) i n HXL.out hlt2;have hcx:wr.cell? ⟨g,i,none⟩=some x:=own_cell hvr (by rw[hvg];rfl) hx;have hfx:=own_frozen hvr (g:=g) (by rw[hvg];rfl) i;have hin:(i:Int)<(n:Int):=by omega
   have hbx:But (fun b=>v.ownBlock=some b) wr (wr.setCell ⟨g,i,none⟩ (.int .u8 (M:Int))):=(But.refl _ _).setCell (S:=fun b=>v.ownBlock=some b) (.inl (by rw[hvg];rfl)) _;have HH6:Hid (HAt (wr.setCell ⟨g,i,none⟩ (.int .u8 (M:Int))) hb {s with n:=(N:Int)+1}):=HHr.out.kept (Below.heap_setCell _ _ _ _ (fun q=>hOne g (by rw[hvg];rfl) q.symm));have hO6:=hOr.but hbx (own_own_ne hOr.own hvr (by decide)) (own_own_ne hOr.marks hvr (by decide)) (fun e he g' hg' q=>HFAR.out e he g' q hg')
   have hv6:(wr.setCell ⟨g,i,none⟩ (.int .u8 (M:Int))).ownsRow Bv 5 1 v n (List.replicate (i+1) (.int .u8 (M:Int))++xs.drop (i+1)):=by
    rw[<- fill_step xs _ i n HXL.out hlt2];rw[hvg]at hvr ⊢;exact own_set hvr
   have hb6:=hbr.then hbx (fun b _ q=>.inr (.inr (.inr q)));clear hvg hbx hvr hOr hbr hx;go_wp2_with fail
   go_roundw
   case rel=>exact⟨i+1,by omega,by go_num,HH6,hO6,hv6,hb6⟩
   case measure=>simp[intOf];omega
  ·obtain rfl:i=n:=by omega
   have hks:KS w wr hb B Bv N i M s es v v s.out s.marks es es 0:=
    ⟨HHr.out,hOr.own,hOr.marks,hOr.each,by
     have:=hvr;rw[List.drop_of_length_le (by rw[HXL.out];exact Nat.le_refl _),List.append_nil]at this;exact this,fun b q=>.inl q,fun b q=>.inl q,fun b q=>.inl q,⟨[],by simp,fun e he=>by simp at he⟩,fun e he g h1 h2=>absurd h1 (HFAR.out e he g h2),hbr⟩
   obtain⟨iB,hiB,hiB0,hiB1,hiB2⟩:=Tryz.bytes_parts;obtain⟨iI,hiI,hiI0,hiI1,hiI2⟩:=Tryz.int_parts;obtain⟨iU,hiU,hiU0,hiU1,hiU2⟩:=Tryz.u8_parts;clear HHr hOr hvr hbr;go_wp2_with fail
   go_loopw[1,6] (fun t1 t6 wr=>∃(k:Nat) (eo:List Ent) (vo vm:Value),k<=4/\t6=.int .i64 k/\Hid (eo.length=es.length+k)/\KS w wr hb B Bv N i M s es v t1 vo vm eo eo k) (fun _ t _=>4 - (intOf t).toNat)
   case atStart=>exact⟨0,es,s.out,s.marks,by omega,rfl,rfl,by rw[<- HV.out];exact hks⟩
   case round=>
    clear hks;obtain⟨k,eo,vo,vm,hk,rfl,HEL,hK⟩:=hrel;by_cases hlt4:k<4
    ·obtain⟨wA,rfl⟩:∃ x,x=wr:=⟨wr,rfl⟩
     obtain⟨la,lc,rfl⟩:=own_len hK.row;have hk4:(k:Int)<4:=by omega
     have hlen:eo.length<=10000000010:=by rw[HEL.out];omega
     have hsz:=hK.but.size;have hc5:wA.cell? ⟨hb,7,none⟩=some vo:=hK.hands.cell 5;go_wp2_with (at_builtin;refine wpList_append_lies _ rfl _ _ _ rfl B 33 iB (.slice none 0 0) 1 24 Tryz.underlying40 hiB hiB0 hiB1 hiB2 rfl (by omega) vo eo.length (eo.map (·.v)) rfl (hK.own.alloc _) ⟨wA.heap.size,0,none⟩ 1 1 [.slice la (i+k) lc] rfl rfl ?c1 ?c2 (by omega) ?c3 ?c4 ?c5 (wA.heap.size+1) ?c6 ?_)
     case c1=>exact cell_one_at _ _ _ _ rfl
     case c2=>intro u hu;simp at hu;subst hu;rfl
     case c3=>unfold maxLen;omega
     case c4=>omega
     case c5=>simp;omega
     case c6=>simp
     intro g1 cap1 w2 hown2 hgr2 hlie2 hlt2';have hb2:But (fun b=>vo.ownBlock=some b) wA w2:=((But.refl _ wA).alloc _).grown hgr2 (fun k hk=>.inl hk)
     have hK3:=hK.pushOut hM3 (by omega) hb2 hown2 (fun b hq=>by
      have e:g1=b:=by simpa [Value.ownBlock] using hq
      subst e;rcases hlie2 with q|q
      ·exact .inl q
      ·right;omega)
     have hH2:HAt w2 hb {s with n:=(N:Int)+1,out:=vo,marks:=vm}:=hK.hands.kept (hb2.block hb hK.hands.lt (fun q=>own_ne hK.own q hK.hands (by decide) rfl));have hc52:w2.cell? ⟨hb,7,none⟩=some vo:=hH2.cell 5;have hf52:=hH2.frozen 7;clear hown2 hgr2 hlie2 hb2 hK hc5;go_wp2_with fail;obtain⟨w3,hw3⟩:∃ x,x=w2.setCell ⟨hb,7,none⟩ (.slice (some ⟨g1,0,none⟩) (eo.length+1) cap1):=⟨_,rfl⟩;rw[<- hw3]at hK3;rw[<- hw3];clear hw3 hc52 hf52 hH2;have hc6:w3.cell? ⟨hb,8,none⟩=some vm:=hK3.hands.cell 6;have hc4:w3.cell? ⟨hb,6,none⟩=some (.int .i64 ((N:Int)+1)):=hK3.hands.cell 4;have hf6:=hK3.hands.frozen 8;have hsz3:=hK3.but.size;have hmo:∀ u ∈ [Value.int .i64 M],u.oneCell'=true:=by intro u hu;simp at hu;subst hu;rfl
     have hm1:eo.length+1<=maxLen:=by unfold maxLen;omega
     have hm2:(eo.length+1)*8<=140737488355328:=by omega
     have HM3:Hid (∀ o,B<=(w3.alloc o).drew.heap.size):=fun o=>by simp;omega
     have HMK:Hid (∀ o,(w3.alloc o).drew.ownsRow B 3 1 vm eo.length (eo.map fun e=>.int .i64 (e.m:Int))):=fun o=>hK3.marks.alloc o
     have hM4:((N:Int)+1).tmod 250=(M:Int):=by rw[Int.tmod_eq_emod_of_nonneg (by omega)];exact hM2
     have hbl3:hb<w3.heap.size:=hK3.hands.lt;have hbn3:hb≠w3.heap.size:=Nat.ne_of_lt hbl3
     go_region_law ((refine step_append_lies _ (by rfl) _ _ _ (by rfl) B 3 iI (.int .i64 0) 1 8 Tryz.underlying75 hiI hiI0 hiI1 hiI2 rfl (by omega) vm eo.length (eo.map fun e=>.int .i64 (e.m:Int)) (by rfl) (HMK.out _) ⟨w3.heap.size,0,none⟩ 1 1 [.int .i64 M] (by rfl) rfl (cell_one_at w3 _ _ _ rfl) hmo (by omega) hm1 hm2 (HM3.out _) (w3.heap.size+1) (by simp) ?_;intro g2 cap2 w4 hown4 hgr4 hlie4 hlt4;have hf64:=(hK3.sees hgr4).2.2;have hc64:=(hK3.sees hgr4).1))
     all_goals
      have hb4:But (fun b=>vm.ownBlock=some b) w3 w4:=((But.refl _ w3).alloc _).drew.grown hgr4 (fun k hk=>.inl hk)
      have hK5:=hK3.pushMark ⟨.slice la (i+k) lc,i+k,M⟩ rfl hb4 hown4 (fun b hq=>by
       have e:g2=b:=by simpa [Value.ownBlock] using hq
       subst e;rcases hlie4 with q|q
       ·exact .inl q
       ·right;omega)
      obtain⟨w5,hw5⟩:∃ x,x=w4.setCell ⟨hb,8,none⟩ (.slice (some ⟨g2,0,none⟩) (eo.length+1) cap2):=⟨_,rfl⟩;rw[<- hw5]at hK5;rw[<- hw5];clear hw5 hf64 hc64 hb4 hown4 hgr4 hlie4;have hsz5:=hK5.but.size;obtain⟨XR,hXR⟩:∃ XR,XR=List.replicate (i+k) (Value.int .u8 (M:Int)):=⟨_,rfl⟩;have hrow5:=hK5.row;rw[<- hXR]at hrow5;have HXR:Hid (XR=List.replicate (i+k) (Value.int .u8 (M:Int))):=hXR;clear hXR;go_wp2_with (at_builtin;refine wpList_append_apart rfl _ _ _ rfl Bv 5 iU (.int .u8 0) 1 1 Tryz.underlying33 hiU hiU0 hiU1 hiU2 rfl (by omega) (.slice la (i+k) lc) (i+k) XR rfl (hrow5.alloc _) ⟨w5.heap.size,0,none⟩ 1 1 [.int .u8 (M:Int)] rfl rfl ?c1 ?c2 (by omega) ?c3 ?c4 ?c5 ?c6 ?_)
      case c1=>exact cell_one_at _ _ _ _ rfl
      case c2=>intro u hu;simp at hu;subst hu;rfl
      case c3=>unfold maxLen;omega
      case c4=>omega
      case c5=>omega
      case c6=>simp;omega
      intro g6 cap6 w6 hown6 hgr6 hlie6 hlt6;have hb6:But (fun b=>(Value.slice la (i+k) lc).ownBlock=some b) w5 w6:=((But.refl _ w5).alloc _).grown hgr6 (fun k hk=>.inl hk)
      have hK7:=hK5.more hb6 (by rw[<- HXR.out];exact hown6) (by
       rcases hlie6 with q|⟨q,hall⟩
       ·exact .inl q
       ·have q':g6=w5.heap.size+1:=by simpa using q
        exact .inr ⟨by omega,fun j hj=>by rw[hall j (by omega),Below.heap_alloc _ _ _ hj]⟩)
      clear hown6 hgr6 hlie6 hb6 hK5 hrow5;go_wp2_with fail
      go_roundw
      case rel=>
       have HEL7:Hid ((eo++[(⟨.slice la (i+k) lc,i+k,M⟩:Ent)]).length=es.length+(k+1)):=by show _=_;simp[HEL.out];omega
       (repeat apply Exists.intro)
       refine⟨⟨k+1,_,_,_,?_,?_,HEL7,hK7⟩,?frame⟩
       case frame=>rw[hM2]
       ·omega
       ·go_num
      case measure=>simp[intOf];omega
    ·obtain rfl:k=4:=by omega
     go_wp2_with fail
     go_end0
     obtain⟨es',h1,h2⟩:=hK.newAt;have h3:es'.length=4:=by have:=HEL.out;rw[h1,List.length_append]at this;omega
     refine⟨rfl,es',vo,vm,?_⟩;rw[<- HV.out];exact⟨hK.hands,⟨by rw[<- h1];exact hK.own,by rw[<- h1];exact hK.marks,by rw[<- h1];exact hK.each⟩,h3,hK.outAt,hK.marksAt,h2,hK.but⟩
theorem KOk.form{w:World}{v:Value}{n m:Nat}(h:KOk w v n m):∃ a c,v=.slice a n c/\∀ k,k<n->∃ g,a=some ⟨g,0,none⟩/\w.cell? ⟨g,k,none⟩=some (.int .u8 (m:Int)):=by
 rcases h with⟨c,h1,h2⟩|⟨g,c,cs,h1,h2,h3⟩
 ·exact⟨none,c,by rw[h1,h2],fun k hk=>by omega⟩
 ·exact⟨_,c,h1,fun k hk=>⟨g,rfl,by rw[cell_of_row w g k _ _ _ h2];exact h3 k hk⟩⟩
theorem back0_any(lv:Value)(hb B B2 k kr ki X Z n lb lo zb zo zc:Nat)(hkr0:Hid (kr=0))(al az:Option Addr)(s:HS)(rs:List Raw)(gs:List Nat)(l:List Int)(w:World)(hk:k<=1048576)(hbB:hb<B)(hH:HAt w hb s)
 (hL:Lent w B s.in_ rs gs k) (hg2:∀ i,i<k->gat gs i<B2) (hO:Owned w B rs k) (hR:RowsIn w B B2 s.rows rs gs k X lb lo al kr) (hI:IntsIn w B B2 s.ints s.iwant l n Z zb zo zc az ki):
 Calls Tryz.prog 82 #[.pointer (some ⟨hb,2,none⟩),lv] w fun e w'=>
  e=.returned (.bool true)/\HAt w' hb {s with in_:=.slice none 0 0,rows:=.slice none 0 0,ints:=.slice none 0 0,iwant:=.slice none 0 0}/\But (fun b=>b=hb∨(B<=b/\b<B2)) w w':=by
 go_enter Tryz.func82,Tryz.ntmps82;go_wp2_with fail
 go_loopw[5,6] (fun t5 t6 wr=>∃ i:Nat,i<=kr/\t5=.bool true/\t6=.int .i64 i/\(i=0->wr=w)/\But (fun b=>b=X/\0<i) w wr) (fun _ t _=>kr - (intOf t).toNat)
 case atStart=>exact⟨0,by omega,rfl,rfl,fun _=>rfl,But.refl _ _⟩
 case round=>
  obtain⟨i,hi,rfl,rfl,hw0,hbut⟩:=hrel;by_cases hlt:i<kr
  ·exact absurd hlt (by have:=hkr0.out;omega)
  ·obtain rfl:i=kr:=by omega
   have hXt:0<i->w.heap[X]?=some (.cells (lendCells rs gs k k) 33 (0,0))/\B<=X/\X<B2:=fun q=>⟨(hR.list q).1,(hR.list q).2.1,(hR.list q).2.2.1⟩
   have HA:Hid (HAt wr hb s):=hH.kept (hbut.block hb hH.lt (fun q=>by have:=(hXt q.2).2.1;omega))
   have hLA:Lent wr B s.in_ rs gs k:=hL.kept hbut (fun g hg q=>own_ne hL.own hg (hXt q.2).1 (by decide) q.1) (fun j hj q=>by
    have h1:=hL.blk j hj;unfold Blk at h1;rw[q.1,(hXt q.2).1]at h1;simp only[Option.some.injEq,Obj.cells.injEq]at h1;exact absurd h1.2.1 (by decide))
   have hOA:Owned wr B rs k:=hO.but hbut (fun b q=>by rw[q.1];exact(hXt q.2).2.1)
   have hIA:IntsIn wr B B2 s.ints s.iwant l n Z zb zo zc az ki:=hI.but hbut (fun g hg q=>own_ne hI.ints hg (hXt q.2).1 (by decide) q.1) (fun g hg q=>own_ne hI.want hg (hXt q.2).1 (by decide) q.1) (fun hk q=>by
    have h1:=(hI.blk hk).1;unfold ZBlk at h1;rw[q.1,(hXt q.2).1]at h1;simp only[Option.some.injEq,Obj.cells.injEq]at h1;exact absurd h1.2.1 (by decide)) (fun b q=>by rw[q.1];exact(hXt q.2).2.1)
   have hbA:But (fun b=>B<=b/\b<B2) w wr:=hbut.wide (fun b _ q=>by rw[q.1];exact(hXt q.2).2);have hcr:wr.cell? ⟨hb,3,none⟩=some s.rows:=HA.out.cell 1
   have hlenR:∃ a c,s.rows=.slice a i c:=by
    rcases hR.own.2 with⟨h1,h2⟩|⟨g,cap,cur,h1,_⟩
    ·exact⟨_,_,by rw[h1,h2]⟩
    ·exact⟨_,_,h1⟩
   obtain⟨ra,rc,hra⟩:=hlenR;rw[hra]at hcr;have HRA:Hid (s.rows=.slice ra i rc):=hra;clear hra hbut hXt hw0 hlt;generalize hWA:wr=wA at *;clear hWA;have hlow:=hLA.low;have HAP:Hid (∀ i j,i<k->j<k->gat gs i=gat gs j->i=j):=hLA.apart;have hownA:=hLA.own;have HBA:Hid (∀ j,0<=j->j<k->Blk wA (gat gs j) (marked (wat rs j).l)):=fun j _ hj=>hLA.blk j hj
   clear hLA hH hL hO hR hI;go_wp2_with fail
   go_loopw[5,11] (fun t5 t11 wr=>∃(i:Nat),i<=k/\t5=.bool true/\t11=.int .i64 i/\Hid (HAt wr hb s)/\wr.ownsRow B 221 2 s.in_ k (lentCells rs gs k)/\Hid (∀ j,i<=j->j<k->Blk wr (gat gs j) (marked (wat rs j).l))/\Owned wr B rs k/\IntsIn wr B B2 s.ints s.iwant l n Z zb zo zc az ki/\But (fun b=>B<=b/\b<B2) w wr) (fun _ t _=>k - (intOf t).toNat)
   case atStart=>exact⟨0,by omega,rfl,rfl,HA,hownA,HBA,hOA,hIA,hbA⟩
   case round=>
    clear HA hownA HBA hOA hIA hbA hcr;obtain⟨i4,hi4,rfl,rfl,HA,hownA,HBA,hOA,hIA,hbA⟩:=hrel;have hci:wr.cell? ⟨hb,2,none⟩=some s.in_:=HA.out.cell 0;by_cases hlt:i4<k
    ·obtain⟨wB,rfl⟩:∃ x,x=wr:=⟨wr,rfl⟩
     obtain⟨gi,ci,hvi,_,_⟩:=hownA.form (by omega)
     have hall:wB.cell? ⟨gi,i4*2,none⟩=some (.slice (some ⟨gat gs i4,0,none⟩) ((wat rs i4).l.length+2) ((wat rs i4).l.length+2)):=by
      exact own_cell hownA (by rw[hvi];rfl) (lentCells_all rs gs k i4 hlt)
     have hwant:wB.cell? ⟨gi,i4*2+1,none⟩=some (wat rs i4).v:=by
      exact own_cell hownA (by rw[hvi];rfl) (lentCells_want rs gs k i4 hlt)
     rw[hvi]at hci;have HVI:Hid (s.in_=.slice (some ⟨gi,0,none⟩) k ci):=hvi;clear hvi;have hik:(i4:Int)<(k:Int):=by omega
     obtain⟨hraw,hml,_⟩:=hOA i4 hlt;obtain⟨m,hm⟩:∃ m,m=(wat rs i4).l.length:=⟨_,rfl⟩;have hG:=HBA.out i4 (Nat.le_refl _) hlt;have hG2:=hG.bsN m;rw[hm,marked_take]at hG2;have hv1:=fun nq=>hG2.convN m (m+2) hm.symm nq
     have hv2:=fun nq=>hraw.conv nq
     have hx0:wB.cell? ⟨gat gs i4,m,none⟩=some (.int .u8 165):=by
      have:=hG.bs m (by simp[marked,hm]);rw[Nat.zero_add]at this;rw[this,hm];simp[marked,at_,List.getD]
     have hx1:wB.cell? ⟨gat gs i4,m+1,none⟩=some (.int .u8 165):=by
      have:=hG.bs (m+1) (by simp[marked,hm]);rw[Nat.zero_add]at this;rw[this,hm];simp[marked,at_,List.getD]
     have hss:((str (wat rs i4).l).toList==(str (wat rs i4).l).toList)=true:=by rw[beq_iff_eq]
     rw[<- hm]at hall hml;have HML:Hid (m=(wat rs i4).l.length):=hm;have HG:Hid (Blk wB (gat gs i4) (marked (wat rs i4).l)):=hG;clear hm hG hG2 hraw;go_wp2_with fail
     go_quiet (fail)
     go_wp2_with fail;have hGs:Hid (∃ cs:Array Value,cs.size=m+2/\(wB.drewN nq).heap[gat gs i4]?=some (.cells cs 5 (0,0))):=⟨_,by simp[enc,marked,HML.out],HG.out⟩;clear hv1 hv2 hx0 hx1 hall hwant hci hss
     go_loopw[14] (fun t14 wq=>∃(q:Nat),q<=m+2/\t14=.int .i64 q/\Hid (∃ cs:Array Value,cs.size=m+2/\wq.heap[gat gs i4]?=some (.cells cs 5 (0,0)))/\But (fun b=>b=gat gs i4) wB wq) (fun t _=>m+2 - (intOf t).toNat)
     case atStart=>exact⟨0,by omega,rfl,hGs,⟨rfl,rfl,rfl,Nat.le_refl _,fun _ _ _=>rfl⟩⟩
     case round=>
      clear hGs;obtain⟨q,hq,rfl,HXq,hbq⟩:=hrel;by_cases hlt3:q<m+2
      ·obtain⟨cs,hcs,hXq⟩:=HXq.out
       have hcq:wr.cell? ⟨gat gs i4,q,none⟩=some cs[q]:=by rw[cell_of_row wr _ q _ _ _ hXq];simp[hcs,hlt3]
       have hfq:=frozen_of_row wr _ q _ _ hXq;have hq2:(q:Int)<(m:Int)+2:=by omega
       have HX6:Hid (∃ cs:Array Value,cs.size=m+2/\(wr.setCell ⟨gat gs i4,q,none⟩ (.int .u8 90)).heap[gat gs i4]?=some (.cells cs 5 (0,0))):=⟨_,by simpa using hcs,heap_setCell_same _ _ _ _ _ _ hXq⟩;have hb6:=hbq.setCell (p:=⟨gat gs i4,q,none⟩) (.inl rfl) (.int .u8 90);clear hXq;go_wp2_with fail;exact⟨⟨q+1,by omega,by go_num,HX6,hb6⟩,by simp[intOf];omega⟩
      ·obtain rfl:q=m+2:=by omega
       have hlo:=hlow i4 hlt;have hh2:=hg2 i4 hlt;have HA5:Hid (HAt wr hb s):=HA.out.kept (hbq.block hb HA.out.lt (fun q=>by omega));have hown5:=hbq.own hownA (fun g hg q=>own_ne hownA hg HG.out (by decide) q);have HB5:Hid (∀ j,i4+1<=j->j<k->Blk wr (gat gs j) (marked (wat rs j).l)):=fun j h1 h2=>(HBA.out j (by omega) h2).kept (hbq.block _ (HBA.out j (by omega) h2).lt (fun q=>by have:=HAP.out j i4 h2 hlt q;omega))
       have hO5:=hOA.but hbq (fun b q=>by rw[q];exact hlo)
       have hI5:=hIA.but hbq (fun g hg q=>own_ne hIA.ints hg HG.out (by decide) q) (fun g hg q=>own_ne hIA.want hg HG.out (by decide) q) (fun hk q=>by
        have h1:=(hIA.blk hk).1;have h2:=HG.out;unfold ZBlk at h1;unfold Blk at h2;rw[q,h2]at h1;simp only[Option.some.injEq,Obj.cells.injEq]at h1;exact absurd h1.2.1 (by decide)) (fun b q=>by rw[q];exact hlo)
       have hb5:=hbA.then hbq (fun b _ q=>by rw[q];exact⟨hlo,hh2⟩);clear HA hownA HBA hOA hIA hbA hbq HXq;go_wp2_with fail;refine⟨?_,by simp[intOf];omega⟩
       first
        | exact⟨i4+1,by omega,rfl,by go_num,HA5,hown5,HB5,hO5,hI5,hb5⟩
        | ((repeat apply Exists.intro);exact⟨⟨i4+1,by omega,rfl,by go_num,HA5,hown5,HB5,hO5,hI5,hb5⟩,rfl⟩)
    ·obtain rfl:i4=k:=by omega
     obtain⟨wC,rfl⟩:∃ x,x=wr:=⟨wr,rfl⟩;obtain⟨ia,ic,hia⟩:=own_len hownA;rw[hia]at hci;have HIA:Hid (s.in_=.slice ia i4 ic):=hia;clear hia;go_wp2_with fail
     go_loopw[5,15] (fun t5 t15 wr=>∃ i:Nat,i<=ki/\t5=.bool true/\t15=.int .i64 i/\(i=0->wr=wC)/\But (fun b=>b=Z/\0<i) wC wr) (fun _ t _=>ki - (intOf t).toNat)
     case atStart=>exact⟨0,by omega,rfl,rfl,fun _=>rfl,But.refl _ _⟩
     case round=>
      obtain⟨i6,hi6,rfl,rfl,hw0,hbut⟩:=hrel;by_cases hlt6:i6<ki
      ·have hki:ki=1:=by have:=hIA.one;omega
       have hi0:i6=0:=by omega
       subst hi0;obtain rfl:=(hw0 rfl).symm;clear hw0;obtain⟨hZb,hBZ,hZ2,hzl,hnn,hzb,haz,hZs⟩:=hIA.blk hlt6;have hints:=hIA.ints;have hwants:=hIA.want;rw[hki]at hints hwants;obtain⟨gi,ci,hvi,_,_⟩:=hints.form (by omega);obtain⟨gw,cw,hvw,_,_⟩:=hwants.form (by omega);have hc2:wC.cell? ⟨hb,4,none⟩=some (.slice (some ⟨gi,0,none⟩) 1 ci):=by rw[HA.out.cell 2,<- hvi];rfl
       have hc3:wC.cell? ⟨hb,5,none⟩=some (.slice (some ⟨gw,0,none⟩) 1 cw):=by rw[HA.out.cell 3,<- hvw];rfl
       have hcg:wC.cell? ⟨gi,0,none⟩=some (.slice (some ⟨Z,0,none⟩) (n+2) (n+2)):=own_cell hints (by rw[hvi];rfl) rfl;have hcw:wC.cell? ⟨gw,0,none⟩=some (.slice az n zc):=own_cell hwants (by rw[hvw];rfl) rfl
       have hn0:wC.cell? ⟨Z,n,none⟩=some (.int .i64 (-7)):=by
        have:=hZb.zs n (by simp[markedZ,hzl]);rw[Nat.zero_add]at this;rw[this];simp[markedZ,zat,List.getD,<- hzl]
       have hn1:wC.cell? ⟨Z,n+1,none⟩=some (.int .i64 (-7)):=by
        have:=hZb.zs (n+1) (by simp[markedZ,hzl]);rw[Nat.zero_add]at this;rw[this];simp[markedZ,zat,List.getD,<- hzl]
       have HKI:Hid (ki=1):=hki;have HVI:Hid (s.ints=.slice (some ⟨gi,0,none⟩) 1 ci):=hvi;have HZL:Hid (l.length=n):=hzl;have HZB:Hid (ZBlk wC Z (markedZ l)):=hZb;clear hki hvi hvw hzl hZb hints hwants hci;go_wp2_with fail
       go_loopw[5,18] (fun t5 t18 wr=>∃(j nq:Nat),j<=n/\t5=.bool true/\t18=.int .i64 j/\wr=wC.drewN nq) (fun _ t _=>n - (intOf t).toNat)
       case atStart=>exact⟨0,0,by omega,rfl,rfl,rfl⟩
       case round=>
        obtain⟨j,nq,hj,rfl,rfl,rfl⟩:=hrel;by_cases hlt7:j<n
        ·obtain rfl:=haz (by omega)
         have hx1:wC.cell? ⟨Z,j,none⟩=some (.int .i64 (zat l j)):=by
          have:=HZB.out.zs j (by simp[markedZ,HZL.out];omega);rw[Nat.zero_add]at this;have hjl:j<l.length:=by rw[HZL.out];exact hlt7
          rw[this];simp[markedZ,zat,List.getD,List.getElem?_append_left hjl]
         have hx2:=hZs j (by rw[HZL.out];exact hlt7);have hj1:(j:Int)<(n:Int):=by omega
         have hj2:(j:Int)<(n:Int)+2:=by omega
         have hss:(zat l j==zat l j)=true:=by rw[beq_iff_eq]
         go_wp2_with fail
         go_quiet (fail)
         go_wp2_with fail;refine⟨?_,by simp[intOf];omega⟩
         first
          | exact⟨j+1,_,by omega,rfl,by go_num,rfl⟩
          | ((repeat apply Exists.intro);exact⟨⟨j+1,_,by omega,rfl,by go_num,rfl⟩,rfl⟩)
        ·obtain rfl:j=n:=by omega
         go_wp2_with fail;have hXs:Hid (∃ cs:Array Value,cs.size=j+2/\(wC.drewN nq).heap[Z]?=some (.cells cs 3 (0,0))):=⟨_,by simp[encZ,markedZ,HZL.out],HZB.out⟩
         go_loopw[19] (fun t19 wr=>∃(q:Nat),q<=j+2/\t19=.int .i64 q/\Hid (∃ cs:Array Value,cs.size=j+2/\wr.heap[Z]?=some (.cells cs 3 (0,0)))/\But (fun b=>b=Z) wC wr) (fun t _=>j+2 - (intOf t).toNat)
         case atStart=>exact⟨0,by omega,rfl,hXs,⟨rfl,rfl,rfl,Nat.le_refl _,fun _ _ _=>rfl⟩⟩
         case round=>
          obtain⟨q,hq,rfl,HXq,hbq⟩:=hrel;by_cases hlt8:q<j+2
          ·obtain⟨cs,hcs,hXq⟩:=HXq.out
           have hcq:wr.cell? ⟨Z,q,none⟩=some cs[q]:=by rw[cell_of_row wr Z q _ _ _ hXq];simp[hcs,hlt8]
           have hfq:=frozen_of_row wr Z q _ _ hXq;have hq2:(q:Int)<(j:Int)+2:=by omega
           have HX6:Hid (∃ cs:Array Value,cs.size=j+2/\(wr.setCell ⟨Z,q,none⟩ (.int .i64 3)).heap[Z]?=some (.cells cs 3 (0,0))):=⟨_,by simpa using hcs,heap_setCell_same _ _ _ _ _ _ hXq⟩;have hb6:=hbq.setCell (p:=⟨Z,q,none⟩) (.inl rfl) (.int .i64 3);clear hXq;go_wp2_with fail;exact⟨⟨q+1,by omega,by go_num,HX6,hb6⟩,by simp[intOf];omega⟩
          ·obtain rfl:q=j+2:=by omega
           have hb7:But (fun b=>b=Z/\0<0+1) wC wr:=hbq.wide (fun b _ e=>⟨e,by omega⟩);go_wp2_with fail;refine⟨?_,by rw[HKI.out];simp[intOf]⟩;exact⟨0+1,by rw[HKI.out];exact Nat.le_refl _,rfl,by go_num,fun q=>by omega,hb7⟩
      ·obtain rfl:i6=ki:=by omega
       have hZt:0<i6->B<=Z/\Z<B2:=fun q=>⟨(hIA.blk q).2.1,(hIA.blk q).2.2.1⟩
       have HAE:Hid (HAt wr hb s):=HA.out.kept (hbut.block hb HA.out.lt (fun q=>by have:=(hZt q.2).1;omega));have hbE:But (fun b=>b=hb∨(B<=b/\b<B2)) w wr:=(hbA.wide (fun b _ q=>.inr q)).then hbut (fun b _ q=>.inr (by rw[q.1];exact hZt q.2));obtain⟨za,zc2,hza⟩:=own_len hIA.ints;have hcz:wr.cell? ⟨hb,4,none⟩=some (.slice za i6 zc2):=by rw[HAE.out.cell 2,<- hza];rfl
       have hq0:wr.cell? ⟨hb,2,none⟩=some s.in_:=HAE.out.cell 0;have hq1:wr.cell? ⟨hb,3,none⟩=some s.rows:=HAE.out.cell 1;have hq3:wr.cell? ⟨hb,5,none⟩=some s.iwant:=HAE.out.cell 3;have hfz:=HAE.out.frozen;clear hza hbut hZt hw0 hbA;go_wp2_with fail;go_ret;exact⟨rfl,(((HAE.out.set0 _).set1 _).set2 _).set3 _,(((hbE.setCell (.inl (.inl rfl)) _).setCell (.inl (.inl rfl)) _).setCell (.inl (.inl rfl)) _).setCell (.inl (.inl rfl)) _⟩
def ownN(own:Nat->Nat)(n k:Nat)(b:Nat):Nat:=if b<n then own b else k
theorem ownN_old{own:Nat->Nat}{n k b:Nat}(h:b<n):ownN own n k b=own b:=if_pos h
theorem ownN_new{own:Nat->Nat}{n k b:Nat}(h:n<=b):ownN own n k b=k:=if_neg (by omega)
structure Fr(own:Nat->Nat)(w:World)(own':Nat->Nat)(w':World):Prop where
 os:w'.os=w.os
 tape:w'.tape=w.tape
 output:w'.output=w.output
 size:w.heap.size<=w'.heap.size
 keep:∀ b,b<w.heap.size->own b=1->own' b=1/\w'.heap[b]?=w.heap[b]?
theorem Fr.refl(own:Nat->Nat)(w:World):Fr own w own w:=⟨rfl,rfl,rfl,Nat.le_refl _,fun _ _ h=>⟨h,rfl⟩⟩
theorem Fr.trans{o1 o2 o3:Nat->Nat}{w1 w2 w3:World}(h:Fr o1 w1 o2 w2)(k:Fr o2 w2 o3 w3):Fr o1 w1 o3 w3:=
 ⟨k.os.trans h.os,k.tape.trans h.tape,k.output.trans h.output,Nat.le_trans h.size k.size,fun b hb h1=>by
  obtain⟨q1,q2⟩:=h.keep b hb h1;obtain⟨q3,q4⟩:=k.keep b (Nat.lt_of_lt_of_le hb h.size) q1;exact⟨q3,q4.trans q2⟩⟩
theorem Fr.but{own:Nat->Nat}{S:Nat->Prop}{w w':World}{k:Nat}(hb:But S w w')(hS:∀ b,b<w.heap.size->S b->own b≠1):Fr own w (ownN own w.heap.size k) w':=
 ⟨hb.os,hb.tape,hb.output,hb.size,fun b hlt h1=>⟨by rw[ownN_old hlt];exact h1,hb.block b hlt (fun q=>hS b hlt q h1)⟩⟩
theorem Fr.above{own:Nat->Nat}{w w':World}(k:Nat)(hbe:Below w.heap.size w w'):Fr own w (ownN own w.heap.size k) w':=
 ⟨hbe.os,hbe.tape,hbe.output,hbe.size,fun b hlt h1=>⟨by rw[ownN_old hlt];exact h1,hbe.block b hlt⟩⟩
theorem step_append_apart{w:World}{ops:Array Oper}{o:Oper}{a:Act}{K:Act->World->Prop}{Q:Exit->Act->World->Prop}{F:Prop}(hgd:o.guard=none)(s x:Operand)(t:TypeId)(ho:o.op=.call {callee:=.builtin .append,args:=#[s,x],argTypes:=#[t,t]})
 (base:Nat) (e:TypeId) (i:TypeInfo) (z:Value) (size bytes:Nat) (ht:Tryz.prog.underlying t=some (.slice e)) (hi:Tryz.prog.info? e=some i) (hz:i.zero=some z)
 (hsize:i.size=size) (hby:i.bytes=bytes) (hzs:z.cells.size=size) (hsz:0<size) (v:Value) (n:Nat) (xs:List Value) (hs:a.eval s=v) (hown:w.ownsRow base e size v n xs)
 (ad:Addr) (m c:Nat) (news:List Value) (hx:a.eval x=.slice (some ad) m c) (hl:news.length=m*size) (hnews:∀ j u,news[j]?=some u->w.cell? (ad.add j)=some u) (h1:∀ u ∈ news,u.oneCell'=true)
 (hm:0<m) (h63:n+m<=maxLen) (hbytes:((n+m)+(n+m)/4+192)*bytes<=281474976710656) (hbytes2:(n+m)*bytes<=140737488355328) (hbase:base<=w.heap.size)
 (h:∀ g cap w',w'.ownsRow base e size (.slice (some ⟨g,0,none⟩) (n+m) cap) (n+m) (xs++news)->w.grownBy w' v.ownBlock->(v.ownBlock=some g∨g=w.heap.size/\∀ k,k<w.heap.size->w'.heap[k]?=w.heap[k]?)->g<w'.heap.size->K (a.put o.dst (.slice (some ⟨g,0,none⟩) (n+m) cap)) w'):
 if Region.wanted o (yielded ops a.tmps)=true then Oper.wp Tryz.prog o a w K Q else F:=by
 have hw:Region.wanted o (yielded ops a.tmps)=true:=by simp[Region.wanted,hgd]
 rw[if_pos hw];obtain⟨g,cap,w',hr,h2,h3,h4,h5⟩:=run_append_apart w t o.type base e i z size bytes ht hi hz hsize hby hzs hsz v n xs hown ad m c news hl hnews h1 hm h63 hbytes hbytes2 hbase;unfold Oper.wp execOp;simp only[ho,resolve,invoke,builtin,Sem.run_bind,Sem.run_pure,Result.andThen_ok,List.map_toArray,List.map_cons,List.map_nil,hs,hx,hr];exact h g cap w' h2 h3 h4 h5
def Row8(w:World)(B:Nat)(v:Value)(n:Nat)(xs:List Value):Prop:=
 w.ownsRow B 5 1 v n xs∨∃ g cs,v=.slice (some ⟨g,0,none⟩) n n/\B<=g/\w.heap[g]?=some (.cells cs 5 (0,0))/\cs.toList.take n=xs/\xs.length=n/\n<=maxLen
section
variable {w w':World}{B n:Nat}{v:Value}{xs:List Value}
theorem Row8.len(h:Row8 w B v n xs):xs.length=n:=by
 rcases h with h|⟨g,cs,_,_,_,_,h,_⟩
 ·simpa using h.1
 ·exact h
theorem Row8.form(h:Row8 w B v n xs):∃ a c,v=.slice a n c:=by
 rcases h with h|⟨g,cs,h,_⟩
 ·exact own_len h
 ·exact⟨_,_,h⟩
theorem Row8.form1(h:Row8 w B v n xs)(h0:0<n):∃ g c,v=.slice (some ⟨g,0,none⟩) n c/\True/\True:=by
 rcases h with h|⟨g,cs,h,_⟩
 ·obtain⟨g,c,h1,_⟩:=h.form h0
  exact⟨g,c,h1,trivial,trivial⟩
 ·exact⟨g,n,h,trivial,trivial⟩
theorem Row8.block(h:Row8 w B v n xs){g:Nat}(hg:v.ownBlock=some g):B<=g/\∃ cs,w.heap[g]?=some (.cells cs 5 (0,0)):=by
 rcases h with h|⟨g',cs,h1,h2,h3,_⟩
 ·exact⟨(h.lt g hg).1,own_block h hg⟩
 ·rw[h1]at hg
  have e:g'=g:=by simpa [Value.ownBlock] using hg
  subst e;exact⟨h2,cs,h3⟩
theorem Row8.kept(h:Row8 w B v n xs)(hk:∀ g,v.ownBlock=some g->w'.heap[g]?=w.heap[g]?):Row8 w' B v n xs:=by
 rcases h with h|⟨g,cs,h1,h2,h3,h4⟩
 ·exact .inl (own_of_block h hk)
 ·exact .inr ⟨g,cs,h1,h2,(hk g (by rw[h1];rfl)).trans h3,h4⟩
theorem Row8.but{S:Nat->Prop}(h:Row8 w B v n xs)(hb:But S w w')(hn:∀ g,v.ownBlock=some g->¬ S g):Row8 w' B v n xs:=h.kept (fun g hg=>by
 obtain⟨_,cs,hc⟩:=h.block hg;exact hb.block g (lt_of_block hc) (hn g hg))
theorem Row8.alloc(h:Row8 w B v n xs)(o:Obj):Row8 (w.alloc o) B v n xs:=h.kept (fun g hg=>by
 obtain⟨_,cs,hc⟩:=h.block hg;exact Below.heap_alloc w o g (lt_of_block hc))
theorem Row8.cell(h:Row8 w B v n xs){g:Nat}(hg:v.ownBlock=some g){j:Nat}{u:Value}(hj:xs[j]?=some u):w.cell? ⟨g,j,none⟩=some u:=by
 rcases h with h|⟨g',cs,h1,h2,h3,h4,_⟩
 ·exact own_cell h hg hj
 ·rw[h1]at hg
  have e:g'=g:=by simpa [Value.ownBlock] using hg
  subst e;rw[cell_of_row w g' j _ _ _ h3];rw[<- h4,List.getElem?_take]at hj;split at hj
  ·simpa using hj
  ·cases hj
theorem Row8.frozen(h:Row8 w B v n xs){g:Nat}(hg:v.ownBlock=some g)(i:Nat):w.frozen? ⟨g,i,none⟩=false:=by
 obtain⟨_,cs,hc⟩:=h.block hg;exact frozen_of_row w g i _ _ hc
theorem Row8.set{g c i:Nat}{u:Value}(h:Row8 w B (.slice (some ⟨g,0,none⟩) n c) n xs):Row8 (w.setCell ⟨g,i,none⟩ u) B (.slice (some ⟨g,0,none⟩) n c) n (xs.set i u):=by
 rcases h with h|⟨g',cs,h1,h2,h3,h4,h5,h6⟩
 ·exact .inl (own_set h)
 ·simp only[Value.slice.injEq,Option.some.injEq,Addr.mk.injEq]at h1
  obtain⟨⟨rfl,_⟩,_,rfl⟩:=h1;refine .inr ⟨g,cs.setIfInBounds i u,rfl,h2,heap_setCell_same _ _ _ _ _ _ h3,?_,by simpa using h5,h6⟩;rw[<- h4,Array.toList_setIfInBounds,List.take_set]
theorem Row8.ne(h:Row8 w B v n xs){B' n' sz':Nat}{e':TypeId}{v':Value}{xs':List Value}(h':w.ownsRow B' e' sz' v' n' xs')(hne:e'≠5):∀ g,v'.ownBlock=some g->v.ownBlock≠some g:=by
 intro g hg' hg;obtain⟨_,cs,hc⟩:=h.block hg;exact own_ne h' hg' hc hne rfl
theorem Row8.ne_hands{hb:Nat}{s:HS}(h:Row8 w B v n xs)(hH:HAt w hb s):∀ g,v.ownBlock=some g->g≠hb:=by
 intro g hg q;obtain⟨_,cs,hc⟩:=h.block hg;unfold HAt at hH;rw[q,hH]at hc;simp only[Option.some.injEq,Obj.cells.injEq]at hc;exact absurd hc.2.1 (by decide)
theorem Row8.kok{m:Nat}(h:Row8 w B v n (List.replicate n (.int .u8 (m:Int)))):KOk w v n m:=by
 rcases h with h|⟨g,cs,h1,h2,h3,h4,_⟩
 ·exact own_kok h
 ·refine .inr ⟨g,n,cs,h1,h3,fun j hj=>?_⟩
  have h6:(cs.toList.take n)[j]?=some (.int .u8 (m:Int)):=by rw[h4];simp[hj]
  rw[List.getElem?_take,if_pos hj]at h6;simpa using h6
end
theorem run_append_apart8(w:World)(base:Nat)(i:TypeInfo)(hi:Tryz.prog.info? 5=some i)(hz:i.zero=some (.int .u8 0))(hsize:i.size=1)(hby:i.bytes=1)(ty:TypeId)(v:Value)(n:Nat)(xs:List Value)(hown:Row8 w base v n xs)
 (ad:Addr) (m c:Nat) (news:List Value) (hl:news.length=m*1) (hnews:∀ j u,news[j]?=some u->w.cell? (ad.add j)=some u) (h1:∀ u ∈ news,u.oneCell'=true)
 (hm:0<m) (h63:n+m<=maxLen) (hbytes:((n+m)+(n+m)/4+192)*1<=281474976710656) (hbytes2:(n+m)*1<=140737488355328) (hbase:base<=w.heap.size):
 ∃ g cap w',(Builtin.append_ #[33,33] ty #[v,.slice (some ad) m c]).run Tryz.prog w=.ok (.slice (some ⟨g,0,none⟩) (n+m) cap) w'/\
  w'.ownsRow base 5 1 (.slice (some ⟨g,0,none⟩) (n+m) cap) (n+m) (xs++news)/\w.grownBy w' v.ownBlock/\(v.ownBlock=some g∨g=w.heap.size/\∀ k,k<w.heap.size->w'.heap[k]?=w.heap[k]?)/\g<w'.heap.size:=by
 rcases hown with hown|⟨g0,cs,rfl,hb0,hg0,ht0,hx0,hm0⟩
 ·exact run_append_apart w 33 ty base 5 i (.int .u8 0) 1 1 Tryz.underlying33 hi hz hsize hby rfl (by omega) v n xs hown ad m c news hl hnews h1 hm h63 hbytes hbytes2 hbase
 ·have holds:∀ j u,xs[j]?=some u->w.cell? ((⟨g0,0,none⟩:Addr).add j)=some u:=fun j u hj=>by
   have e:(⟨g0,0,none⟩:Addr).add j=⟨g0,j,none⟩:=by unfold Addr.add;split<;>simp_all
   rw[e];exact Row8.cell (B:=base) (v:=.slice (some ⟨g0,0,none⟩) n n) (.inr ⟨g0,cs,rfl,hb0,hg0,ht0,hx0,hm0⟩) rfl hj
  have hr:=run_append_grow (P:=Tryz.prog) w 33 ty 5 i (.int .u8 0) Tryz.underlying33 hi hz ⟨g0,0,none⟩ n n xs (by rw[hsize,hx0];omega) holds ad m c news (by rw[hsize];exact hl) hnews (by omega) (by simp only[maxLen]at h63;omega) (by rw[hby];exact growslice_fits_wide (by omega) hbytes);have hge:=grownCap_ge w (n+m) n 5;have hle:=grownCap_le_maxLen w (n+m) n 5 h63;generalize grownCap w (n+m) n 5=cap at hr hge hle;refine⟨_,_,_,hr,⟨?_,.inr ⟨w.heap.size,cap,_,rfl,hbase,heap_alloc_new w.drew _,hge,hle,?_,?_⟩⟩,⟨rfl,rfl,rfl,?_,fun k hk _=>Below.heap_alloc w.drew _ k hk⟩,.inr ⟨rfl,fun k hk=>Below.heap_alloc w.drew _ k hk⟩,?_⟩
  ·rw[List.length_append,hx0,hl];omega
  ·rw[Array.size_append,Array.size_append,size_zeroCells,show(Value.int .u8 0).cells.size=1 from rfl,List.size_toArray,List.size_toArray,hx0,hl]
   omega
  ·rw[Array.toList_append,Array.toList_append]
   show List.take _ (xs++news++_)=_;rw[List.take_append_of_le_length (by simp[hx0,hl])];exact List.take_of_length_le (by simp[hx0,hl])
  ·simp
  ·simp
theorem wpList_append_apart8{w:World}{ops:Array Oper}{rest:List Oper}{o:Oper}{a:Act}{Q:Exit->Act->World->Prop}(hgd:o.guard=none)(s x:Operand)(ho:o.op=.call {callee:=.builtin .append,args:=#[s,x],argTypes:=#[33,33]})
 (base:Nat) (i:TypeInfo) (hi:Tryz.prog.info? 5=some i) (hz:i.zero=some (.int .u8 0)) (hsize:i.size=1) (hby:i.bytes=1) (v:Value) (n:Nat) (xs:List Value) (hs:a.eval s=v) (hown:Row8 w base v n xs)
 (ad:Addr) (m c:Nat) (news:List Value) (hx:a.eval x=.slice (some ad) m c) (hl:news.length=m*1) (hnews:∀ j u,news[j]?=some u->w.cell? (ad.add j)=some u) (h1:∀ u ∈ news,u.oneCell'=true)
 (hm:0<m) (h63:n+m<=maxLen) (hbytes:((n+m)+(n+m)/4+192)*1<=281474976710656) (hbytes2:(n+m)*1<=140737488355328) (hbase:base<=w.heap.size)
 (h:∀ g cap w',w'.ownsRow base 5 1 (.slice (some ⟨g,0,none⟩) (n+m) cap) (n+m) (xs++news)->w.grownBy w' v.ownBlock->(v.ownBlock=some g∨g=w.heap.size/\∀ k,k<w.heap.size->w'.heap[k]?=w.heap[k]?)->g<w'.heap.size->wpList Tryz.prog ops Q rest (a.put o.dst (.slice (some ⟨g,0,none⟩) (n+m) cap)) w'):wpList Tryz.prog ops Q (o :: rest) a w:=
 wpList_plain hgd fun _ hK=>by
  obtain⟨g,cap,w',hr,h2,h3,h4,h5⟩:=run_append_apart8 w base i hi hz hsize hby o.type v n xs hown ad m c news hl hnews h1 hm h63 hbytes hbytes2 hbase;unfold Oper.wp execOp;simp only[ho,resolve,invoke,builtin,Sem.run_bind,Sem.run_pure,Result.andThen_ok,List.map_toArray,List.map_cons,List.map_nil,hs,hx,hr];exact hK _ _ (h g cap w' h2 h3 h4 h5)
structure KC(w wr:World)(hb B Bv N n M:Nat)(s:HS)(es:List Ent)(v lv vo vm:Value)(eo em:List Ent)(k:Nat):Prop where
 hands:HAt wr hb {s with n:=(N:Int)+1,out:=vo,marks:=vm}
 own:wr.ownsRow B 33 1 vo eo.length (eo.map (·.v))
 marks:wr.ownsRow B 3 1 vm em.length (em.map fun e=>.int .i64 (e.m:Int))
 each:∀ e ∈ eo,KOk wr e.v e.n e.m/\e.m<250/\e.n<=140737488355328
 row:Row8 wr Bv lv (n+k) (List.replicate (n+k) (.int .u8 (M:Int)))
 outAt:∀ b,vo.ownBlock=some b->s.out.ownBlock=some b∨w.heap.size<=b
 marksAt:∀ b,vm.ownBlock=some b->s.marks.ownBlock=some b∨w.heap.size<=b
 lvAt:∀ b,lv.ownBlock=some b->v.ownBlock=some b∨w.heap.size<=b
 newAt:∃ es',eo=es++es'/\∀ e ∈ es',∀ b,e.v.ownBlock=some b->v.ownBlock=some b∨w.heap.size<=b
 same:∀ e ∈ eo,∀ g,e.v.ownBlock=some g->lv.ownBlock=some g->e.m=M/\e.n<=n+k
 but:But (fun b=>b=hb∨s.out.ownBlock=some b∨s.marks.ownBlock=some b∨v.ownBlock=some b) w wr
theorem KC.pushOut{w wr w2:World}{hb B Bv N n M:Nat}{s:HS}{es:List Ent}{v lv vo vm vo':Value}{eo em:List Ent}{k:Nat}(h:KC w wr hb B Bv N n M s es v lv vo vm eo em k)(hM:M<250)(hnk:n+k<=140737488355328)
 (hb2:But (fun b=>vo.ownBlock=some b) wr w2) (ho2:w2.ownsRow B 33 1 vo' (eo.length+1) (eo.map (·.v)++[lv])) (hat:∀ b,vo'.ownBlock=some b->vo.ownBlock=some b∨wr.heap.size<=b):
 KC w (w2.setCell ⟨hb,7,none⟩ vo') hb B Bv N n M s es v lv vo' vm (eo++[⟨lv,n+k,M⟩]) em k:=by
 have hs:=h.but.size;have hvo:∀ b,vo.ownBlock=some b->b≠hb:=fun b hq=>own_ne h.own hq h.hands (by decide)
 have hb3:But (fun b=>vo.ownBlock=some b∨b=hb) wr (w2.setCell ⟨hb,7,none⟩ vo'):=(hb2.wide (fun _ _ q=>.inl q)).setCell (.inl (.inr rfl)) _;have hH2:HAt w2 hb {s with n:=(N:Int)+1,out:=vo,marks:=vm}:=h.hands.kept (hb2.block hb h.hands.lt (fun q=>hvo hb q rfl))
 have farK:∀ u a b,KOk wr u a b->∀ g,u.ownBlock=some g->¬(vo.ownBlock=some g∨g=hb):=fun u a b hu g hg q=>by
  rcases q with q|q
  ·exact hu.ne_own h.own (by decide) g hg q
  ·exact hu.ne_hands h.hands g hg q
 have hrow:Row8 (w2.setCell ⟨hb,7,none⟩ vo') Bv lv (n+k) (List.replicate (n+k) (.int .u8 (M:Int))):=h.row.but hb3 (farK _ _ _ h.row.kok);refine⟨hH2.set5 _,?_,hb3.own h.marks (fun g hg q=>?_),fun e he=>?_,hrow,fun b hq=>?_,h.marksAt,h.lvAt,?_,fun e he=>?_,h.but.then hb3 (fun b hlt q=>?_)⟩
 ·have:=own_of_block ho2 (fun b hq=>Below.heap_setCell w2 ⟨hb,7,none⟩ vo' b (own_ne ho2 hq hH2 (by decide)))
  simpa using this
 ·rcases q with q|q
  ·exact own_own_ne h.marks h.own (by decide) g hg q
  ·exact own_ne h.marks hg h.hands (by decide) q
 ·rcases List.mem_append.1 he with he|he
  ·exact⟨(h.each e he).1.but hb3 (farK _ _ _ (h.each e he).1),(h.each e he).2⟩
  ·obtain rfl:=List.mem_singleton.1 he
   exact⟨hrow.kok,hM,hnk⟩
 ·rcases hat b hq with q|q
  ·exact h.outAt b q
  ·right;omega
 ·obtain⟨es',q1,q2⟩:=h.newAt
  refine⟨es'++[⟨lv,n+k,M⟩],by rw[q1,List.append_assoc],fun e he=>?_⟩;rcases List.mem_append.1 he with he|he
  ·exact q2 e he
  ·obtain rfl:=List.mem_singleton.1 he
   exact h.lvAt
 ·rcases List.mem_append.1 he with he|he
  ·exact h.same e he
  ·obtain rfl:=List.mem_singleton.1 he
   exact fun g _ _=>⟨rfl,Nat.le_refl _⟩
 ·rcases q with q|q
  ·rcases h.outAt b q with q|q
   ·exact .inr (.inl q)
   ·omega
  ·exact .inl q
theorem KC.pushMark{w wr w2:World}{hb B Bv N n M:Nat}{s:HS}{es:List Ent}{v lv vo vm vm':Value}{eo em:List Ent}{k:Nat}(h:KC w wr hb B Bv N n M s es v lv vo vm eo em k)(e0:Ent)(he0:e0.m=M)
 (hb2:But (fun b=>vm.ownBlock=some b) wr w2) (ho2:w2.ownsRow B 3 1 vm' (em.length+1) (em.map (fun e=>.int .i64 (e.m:Int))++[.int .i64 M])) (hat:∀ b,vm'.ownBlock=some b->vm.ownBlock=some b∨wr.heap.size<=b):
 KC w (w2.setCell ⟨hb,8,none⟩ vm') hb B Bv N n M s es v lv vo vm' eo (em++[e0]) k:=by
 have hs:=h.but.size;have hvm:∀ b,vm.ownBlock=some b->b≠hb:=fun b hq=>own_ne h.marks hq h.hands (by decide)
 have hb3:But (fun b=>vm.ownBlock=some b∨b=hb) wr (w2.setCell ⟨hb,8,none⟩ vm'):=(hb2.wide (fun _ _ q=>.inl q)).setCell (.inl (.inr rfl)) _;have hH2:HAt w2 hb {s with n:=(N:Int)+1,out:=vo,marks:=vm}:=h.hands.kept (hb2.block hb h.hands.lt (fun q=>hvm hb q rfl))
 have farK:∀ u a b,KOk wr u a b->∀ g,u.ownBlock=some g->¬(vm.ownBlock=some g∨g=hb):=fun u a b hu g hg q=>by
  rcases q with q|q
  ·exact hu.ne_own h.marks (by decide) g hg q
  ·exact hu.ne_hands h.hands g hg q
 refine⟨hH2.set6 _,hb3.own h.own (fun g hg q=>?_),?_,fun e he=>⟨(h.each e he).1.but hb3 (farK _ _ _ (h.each e he).1),(h.each e he).2⟩,h.row.but hb3 (farK _ _ _ h.row.kok),h.outAt,fun b hq=>?_,h.lvAt,h.newAt,h.same,h.but.then hb3 (fun b hlt q=>?_)⟩
 ·rcases q with q|q
  ·exact own_own_ne h.own h.marks (by decide) g hg q
  ·exact own_ne h.own hg h.hands (by decide) q
 ·have:=own_of_block ho2 (fun b hq=>Below.heap_setCell w2 ⟨hb,8,none⟩ vm' b (own_ne ho2 hq hH2 (by decide)))
  simpa [he0] using this
 ·rcases hat b hq with q|q
  ·exact h.marksAt b q
  ·right;omega
 ·rcases q with q|q
  ·rcases h.marksAt b q with q|q
   ·exact .inr (.inr (.inl q))
   ·omega
  ·exact .inl q
theorem KC.more{w wr w2:World}{hb B Bv N n M g cap:Nat}{s:HS}{es:List Ent}{v lv vo vm:Value}{eo em:List Ent}{k:Nat}(h:KC w wr hb B Bv N n M s es v lv vo vm eo em k)
 (hb2:But (fun b=>lv.ownBlock=some b) wr w2) (ho2:w2.ownsRow Bv 5 1 (.slice (some ⟨g,0,none⟩) (n+k+1) cap) (n+k+1) (List.replicate (n+k) (.int .u8 (M:Int))++[.int .u8 (M:Int)]))
 (hat:lv.ownBlock=some g∨wr.heap.size<=g/\∀ j,j<wr.heap.size->w2.heap[j]?=wr.heap[j]?):
 KC w w2 hb B Bv N n M s es v (.slice (some ⟨g,0,none⟩) (n+k+1) cap) vo vm eo em (k+1):=by
 have hs:=h.but.size
 have hrep:List.replicate (n+k) (Value.int .u8 (M:Int))++[.int .u8 (M:Int)]=List.replicate (n+(k+1)) (.int .u8 (M:Int)):=by
  rw[<- Nat.add_assoc,List.replicate_succ']
 rw[hrep]at ho2;have hlv:=h.row.kok;refine⟨h.hands.kept (hb2.block hb h.hands.lt (fun q=>hlv.ne_hands h.hands hb q rfl)),hb2.own h.own (h.row.ne h.own (by decide)),hb2.own h.marks (h.row.ne h.marks (by decide)),fun e he=>?_,.inl ho2,h.outAt,h.marksAt,fun b hq=>?_,h.newAt,fun e he g' hg' hl=>?_,h.but.then hb2 (fun b hlt q=>?_)⟩
 ·obtain⟨h1,h2⟩:=h.each e he
  refine⟨?_,h2⟩;rcases hat with q|⟨q,hall⟩
  ·by_cases p:e.v.ownBlock=some g
   ·obtain⟨e1,e2⟩:=h.same e he g p q
    rcases h1 with⟨c,q1,q2⟩|⟨g',c,cs,q1,q2,q3⟩
    ·rw[q1]at p;simp[Value.ownBlock]at p
    ·have e3:g'=g:=by rw[q1]at p;simpa [Value.ownBlock] using p
     subst e3;rw[q1,e1];exact own_kok_less ho2 (by rfl) (by omega)
   ·exact h1.but hb2 (fun g' hg' r=>p (by rw[hg',<- q,r]))
  ·exact h1.kept (fun g' hg'=>hall g' (h1.lt hg').1)
 ·have e:g=b:=by simpa [Value.ownBlock] using hq
  subst e;rcases hat with q|⟨q,_⟩
  ·exact h.lvAt g q
  ·right;omega
 ·have e3:g=g':=by simpa [Value.ownBlock] using hl
  subst e3;rcases hat with q|⟨q,_⟩
  ·obtain⟨e1,e2⟩:=h.same e he g hg' q
   exact⟨e1,by omega⟩
  ·have:=((h.each e he).1.lt hg').1;omega
 ·rcases h.lvAt b q with q|q
  ·exact .inr (.inr (.inr q))
  ·omega
theorem KC.sees{w wr w4:World}{hb B Bv N n M:Nat}{s:HS}{es:List Ent}{v lv vo vm:Value}{eo em:List Ent}{k:Nat}{o:Obj}(h:KC w wr hb B Bv N n M s es v lv vo vm eo em k)(hg:(wr.alloc o).drew.grownBy w4 vm.ownBlock):
 w4.cell? ⟨hb,8,none⟩=some vm/\w4.cell? ⟨hb,6,none⟩=some (.int .i64 ((N:Int)+1))/\w4.frozen? ⟨hb,8,none⟩=false:=by
 have hk:w4.heap[hb]?=wr.heap[hb]?:=by
  rw[grown_block hg (by have:=h.hands.lt;simp;omega) (fun q=>own_ne h.marks q h.hands (by decide) rfl)];exact Below.heap_alloc wr o hb h.hands.lt
 have hH:=h.hands.kept hk;exact⟨hH.cell 6,hH.cell 4,hH.frozen 8⟩
theorem keepC_any(hb B Bv N n:Nat)(s:HS)(es:List Ent)(v:Value)(xs:List Value)(w:World)(hN:s.n=(N:Int))(hN2:N<=1000000000)(hH:HAt w hb s)(hO:Outs w B s.out s.marks es)(hes:es.length<=10000000000)(hB:B<=w.heap.size)(hn:n<=14073748835500)
 (hv:Row8 w Bv v n xs) (hBv:Bv<=w.heap.size) (hfar:∀ e ∈ es,∀ g,v.ownBlock=some g->e.v.ownBlock≠some g):
 Calls Tryz.prog 54 #[.pointer (some ⟨hb,2,none⟩),v] w fun e w'=>
  e=.returned (.tuple #[])/\∃ es' vo vm,KeptAs w w' hb B N s es es' v vo vm:=by
 have hc4:w.cell? ⟨hb,6,none⟩=some (.int .i64 N):=by rw[hH.cell 4,<- hN];rfl
 have hf:=hH.frozen;have HH:Hid (HAt w hb s):=hH;have hlt:=hH.lt;obtain⟨a,c,hva⟩:=hv.form;obtain⟨M,hM⟩:∃ M:Nat,M=(N+1)%250:=⟨_,rfl⟩;have hM2:((N:Int)+1)%250=(M:Int):=by omega
 have hM3:M<250:=by omega
 have HM:Hid (M=(N+1)%250):=hM;have HV:Hid (v=.slice a n c):=hva;clear hM hN hH;rw[hva];clear hva;go_enter Tryz.func54,Tryz.ntmps54;go_wp2_with fail;have hOne:∀ g,v.ownBlock=some g->g≠hb:=fun g hg=>hv.ne_hands HH.out g hg
 have HH1:Hid (HAt (w.setCell ⟨hb,6,none⟩ (.int .i64 ((N:Int)+1))) hb {s with n:=(N:Int)+1}):=HH.out.set4 _;have hb1:But (fun b=>b=hb) w (w.setCell ⟨hb,6,none⟩ (.int .i64 ((N:Int)+1))):=(But.refl _ _).setCell (S:=fun b=>b=hb) (.inl rfl) _;have hO1:=hO.but hb1 (fun g hg q=>own_ne hO.own hg HH.out (by decide) q) (fun g hg q=>own_ne hO.marks hg HH.out (by decide) q) (fun e he g hg q=>(hO.each e he).1.ne_hands HH.out g hg q);have hv1:=hv.but hb1 hOne;have hbS:But (fun b=>b=hb∨s.out.ownBlock=some b∨s.marks.ownBlock=some b∨v.ownBlock=some b) w (w.setCell ⟨hb,6,none⟩ (.int .i64 ((N:Int)+1))):=hb1.wide (fun b _ q=>.inl q);have hxl:xs.length=n:=hv.len;have HXL:Hid (xs.length=n):=hxl;have HFAR:Hid (∀ e ∈ es,∀ g,v.ownBlock=some g->e.v.ownBlock≠some g):=hfar;clear hxl hO hv hb1 hfar
 go_loopw[5] (fun t wr=>∃(i:Nat),i<=n/\t=.int .i64 i/\Hid (HAt wr hb {s with n:=(N:Int)+1})/\Outs wr B s.out s.marks es/\Row8 wr Bv v n (List.replicate i (.int .u8 (M:Int))++xs.drop i)/\But (fun b=>b=hb∨s.out.ownBlock=some b∨s.marks.ownBlock=some b∨v.ownBlock=some b) w wr) (fun t _=>n - (intOf t).toNat)
 case atStart=>exact⟨0,by omega,rfl,HH1,hO1,by simpa using hv1,hbS⟩
 case round=>
  clear HH1 hO1 hv1 hbS hc4 hf;obtain⟨i,hi,rfl,HHr,hOr,hvr,hbr⟩:=hrel;by_cases hlt2:i<n
  ·obtain⟨g,c',hvg,_,_⟩:=hvr.form1 (by omega)
   have e1:(Value.slice a n c)=.slice (some ⟨g,0,none⟩) n c':=by rw[<- HV.out,hvg]
   simp only[Value.slice.injEq]at e1;obtain⟨rfl,_,rfl⟩:=e1;obtain⟨x,hx⟩:=fill_at xs (.int .u8 (M:Int)) i n HXL.out hlt2;have hcx:wr.cell? ⟨g,i,none⟩=some x:=hvr.cell (by rw[hvg];rfl) hx;have hfx:=hvr.frozen (g:=g) (by rw[hvg];rfl) i;have hin:(i:Int)<(n:Int):=by omega
   have hbx:But (fun b=>v.ownBlock=some b) wr (wr.setCell ⟨g,i,none⟩ (.int .u8 (M:Int))):=(But.refl _ _).setCell (S:=fun b=>v.ownBlock=some b) (.inl (by rw[hvg];rfl)) _;have HH6:Hid (HAt (wr.setCell ⟨g,i,none⟩ (.int .u8 (M:Int))) hb {s with n:=(N:Int)+1}):=HHr.out.kept (Below.heap_setCell _ _ _ _ (fun q=>hOne g (by rw[hvg];rfl) q.symm));have hO6:=hOr.but hbx (hvr.ne hOr.own (by decide)) (hvr.ne hOr.marks (by decide)) (fun e he g' hg' q=>HFAR.out e he g' q hg')
   have hv6:Row8 (wr.setCell ⟨g,i,none⟩ (.int .u8 (M:Int))) Bv v n (List.replicate (i+1) (.int .u8 (M:Int))++xs.drop (i+1)):=by
    rw[<- fill_step xs _ i n HXL.out hlt2];rw[hvg]at hvr ⊢;exact hvr.set
   have hb6:=hbr.then hbx (fun b _ q=>.inr (.inr (.inr q)));clear hvg hbx hvr hOr hbr hx;go_wp2_with fail
   go_roundw
   case rel=>exact⟨i+1,by omega,by go_num,HH6,hO6,hv6,hb6⟩
   case measure=>simp[intOf];omega
  ·obtain rfl:i=n:=by omega
   have hks:KC w wr hb B Bv N i M s es v v s.out s.marks es es 0:=
    ⟨HHr.out,hOr.own,hOr.marks,hOr.each,by
     have:=hvr;rw[List.drop_of_length_le (by rw[HXL.out];exact Nat.le_refl _),List.append_nil]at this;exact this,fun b q=>.inl q,fun b q=>.inl q,fun b q=>.inl q,⟨[],by simp,fun e he=>by simp at he⟩,fun e he g h1 h2=>absurd h1 (HFAR.out e he g h2),hbr⟩
   obtain⟨iB,hiB,hiB0,hiB1,hiB2⟩:=Tryz.bytes_parts;obtain⟨iI,hiI,hiI0,hiI1,hiI2⟩:=Tryz.int_parts;obtain⟨iU,hiU,hiU0,hiU1,hiU2⟩:=Tryz.u8_parts;clear HHr hOr hvr hbr;go_wp2_with fail
   go_loopw[1,6] (fun t1 t6 wr=>∃(k:Nat) (eo:List Ent) (vo vm:Value),k<=4/\t6=.int .i64 k/\Hid (eo.length=es.length+k)/\KC w wr hb B Bv N i M s es v t1 vo vm eo eo k) (fun _ t _=>4 - (intOf t).toNat)
   case atStart=>exact⟨0,es,s.out,s.marks,by omega,rfl,rfl,by rw[<- HV.out];exact hks⟩
   case round=>
    clear hks;obtain⟨k,eo,vo,vm,hk,rfl,HEL,hK⟩:=hrel;by_cases hlt4:k<4
    ·obtain⟨wA,rfl⟩:∃ x,x=wr:=⟨wr,rfl⟩
     obtain⟨la,lc,rfl⟩:=hK.row.form;have hk4:(k:Int)<4:=by omega
     have hlen:eo.length<=10000000010:=by rw[HEL.out];omega
     have hsz:=hK.but.size;have hc5:wA.cell? ⟨hb,7,none⟩=some vo:=hK.hands.cell 5;go_wp2_with (at_builtin;refine wpList_append_lies _ rfl _ _ _ rfl B 33 iB (.slice none 0 0) 1 24 Tryz.underlying40 hiB hiB0 hiB1 hiB2 rfl (by omega) vo eo.length (eo.map (·.v)) rfl (hK.own.alloc _) ⟨wA.heap.size,0,none⟩ 1 1 [.slice la (i+k) lc] rfl rfl ?c1 ?c2 (by omega) ?c3 ?c4 ?c5 (wA.heap.size+1) ?c6 ?_)
     case c1=>exact cell_one_at _ _ _ _ rfl
     case c2=>intro u hu;simp at hu;subst hu;rfl
     case c3=>unfold maxLen;omega
     case c4=>omega
     case c5=>simp;omega
     case c6=>simp
     intro g1 cap1 w2 hown2 hgr2 hlie2 hlt2';have hb2:But (fun b=>vo.ownBlock=some b) wA w2:=((But.refl _ wA).alloc _).grown hgr2 (fun k hk=>.inl hk)
     have hK3:=hK.pushOut hM3 (by omega) hb2 hown2 (fun b hq=>by
      have e:g1=b:=by simpa [Value.ownBlock] using hq
      subst e;rcases hlie2 with q|q
      ·exact .inl q
      ·right;omega)
     have hH2:HAt w2 hb {s with n:=(N:Int)+1,out:=vo,marks:=vm}:=hK.hands.kept (hb2.block hb hK.hands.lt (fun q=>own_ne hK.own q hK.hands (by decide) rfl));have hc52:w2.cell? ⟨hb,7,none⟩=some vo:=hH2.cell 5;have hf52:=hH2.frozen 7;clear hown2 hgr2 hlie2 hb2 hK hc5;go_wp2_with fail;obtain⟨w3,hw3⟩:∃ x,x=w2.setCell ⟨hb,7,none⟩ (.slice (some ⟨g1,0,none⟩) (eo.length+1) cap1):=⟨_,rfl⟩;rw[<- hw3]at hK3;rw[<- hw3];clear hw3 hc52 hf52 hH2;have hc6:w3.cell? ⟨hb,8,none⟩=some vm:=hK3.hands.cell 6;have hc4:w3.cell? ⟨hb,6,none⟩=some (.int .i64 ((N:Int)+1)):=hK3.hands.cell 4;have hf6:=hK3.hands.frozen 8;have hsz3:=hK3.but.size;have hmo:∀ u ∈ [Value.int .i64 M],u.oneCell'=true:=by intro u hu;simp at hu;subst hu;rfl
     have hm1:eo.length+1<=maxLen:=by unfold maxLen;omega
     have hm2:(eo.length+1)*8<=140737488355328:=by omega
     have HM3:Hid (∀ o,B<=(w3.alloc o).drew.heap.size):=fun o=>by simp;omega
     have HMK:Hid (∀ o,(w3.alloc o).drew.ownsRow B 3 1 vm eo.length (eo.map fun e=>.int .i64 (e.m:Int))):=fun o=>hK3.marks.alloc o
     have hM4:((N:Int)+1).tmod 250=(M:Int):=by rw[Int.tmod_eq_emod_of_nonneg (by omega)];exact hM2
     have hbl3:hb<w3.heap.size:=hK3.hands.lt;have hbn3:hb≠w3.heap.size:=Nat.ne_of_lt hbl3
     go_region_law ((refine step_append_lies _ (by rfl) _ _ _ (by rfl) B 3 iI (.int .i64 0) 1 8 Tryz.underlying75 hiI hiI0 hiI1 hiI2 rfl (by omega) vm eo.length (eo.map fun e=>.int .i64 (e.m:Int)) (by rfl) (HMK.out _) ⟨w3.heap.size,0,none⟩ 1 1 [.int .i64 M] (by rfl) rfl (cell_one_at w3 _ _ _ rfl) hmo (by omega) hm1 hm2 (HM3.out _) (w3.heap.size+1) (by simp) ?_;intro g2 cap2 w4 hown4 hgr4 hlie4 hlt4;have hf64:=(hK3.sees hgr4).2.2;have hc64:=(hK3.sees hgr4).1))
     all_goals
      have hb4:But (fun b=>vm.ownBlock=some b) w3 w4:=((But.refl _ w3).alloc _).drew.grown hgr4 (fun k hk=>.inl hk)
      have hK5:=hK3.pushMark ⟨.slice la (i+k) lc,i+k,M⟩ rfl hb4 hown4 (fun b hq=>by
       have e:g2=b:=by simpa [Value.ownBlock] using hq
       subst e;rcases hlie4 with q|q
       ·exact .inl q
       ·right;omega)
      obtain⟨w5,hw5⟩:∃ x,x=w4.setCell ⟨hb,8,none⟩ (.slice (some ⟨g2,0,none⟩) (eo.length+1) cap2):=⟨_,rfl⟩;rw[<- hw5]at hK5;rw[<- hw5];clear hw5 hf64 hc64 hb4 hown4 hgr4 hlie4;have hsz5:=hK5.but.size;obtain⟨XR,hXR⟩:∃ XR,XR=List.replicate (i+k) (Value.int .u8 (M:Int)):=⟨_,rfl⟩;have hrow5:=hK5.row;rw[<- hXR]at hrow5;have HXR:Hid (XR=List.replicate (i+k) (Value.int .u8 (M:Int))):=hXR;clear hXR;go_wp2_with (at_builtin;refine wpList_append_apart8 rfl _ _ rfl Bv iU hiU hiU0 hiU1 hiU2 (.slice la (i+k) lc) (i+k) XR rfl (hrow5.alloc _) ⟨w5.heap.size,0,none⟩ 1 1 [.int .u8 (M:Int)] rfl rfl ?c1 ?c2 (by omega) ?c3 ?c4 ?c5 ?c6 ?_)
      case c1=>exact cell_one_at _ _ _ _ rfl
      case c2=>intro u hu;simp at hu;subst hu;rfl
      case c3=>unfold maxLen;omega
      case c4=>omega
      case c5=>omega
      case c6=>simp;omega
      intro g6 cap6 w6 hown6 hgr6 hlie6 hlt6;have hb6:But (fun b=>(Value.slice la (i+k) lc).ownBlock=some b) w5 w6:=((But.refl _ w5).alloc _).grown hgr6 (fun k hk=>.inl hk)
      have hK7:=hK5.more hb6 (by rw[<- HXR.out];exact hown6) (by
       rcases hlie6 with q|⟨q,hall⟩
       ·exact .inl q
       ·have q':g6=w5.heap.size+1:=by simpa using q
        exact .inr ⟨by omega,fun j hj=>by rw[hall j (by omega),Below.heap_alloc _ _ _ hj]⟩)
      clear hown6 hgr6 hlie6 hb6 hK5 hrow5;go_wp2_with fail
      go_roundw
      case rel=>
       have HEL7:Hid ((eo++[(⟨.slice la (i+k) lc,i+k,M⟩:Ent)]).length=es.length+(k+1)):=by show _=_;simp[HEL.out];omega
       (repeat apply Exists.intro)
       refine⟨⟨k+1,_,_,_,?_,?_,HEL7,hK7⟩,?frame⟩
       case frame=>rw[hM2]
       ·omega
       ·go_num
      case measure=>simp[intOf];omega
    ·obtain rfl:k=4:=by omega
     go_wp2_with fail
     go_end0
     obtain⟨es',h1,h2⟩:=hK.newAt;have h3:es'.length=4:=by have:=HEL.out;rw[h1,List.length_append]at this;omega
     refine⟨rfl,es',vo,vm,?_⟩;rw[<- HV.out];exact⟨hK.hands,⟨by rw[<- h1];exact hK.own,by rw[<- h1];exact hK.marks,by rw[<- h1];exact hK.each⟩,h3,hK.outAt,hK.marksAt,h2,hK.but⟩
end Go.Proofs.YtjabhnhejbhgjaaGreatDoor
