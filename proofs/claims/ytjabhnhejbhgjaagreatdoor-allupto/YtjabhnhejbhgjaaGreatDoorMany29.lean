import Derived.Test.YtjabhnhejbhgjaaGreatDoorMany28
import Derived.Lib.SliceRun
import Derived.Test.YtjabhnhejbhgjaaGreatDoorMany21
import Derived.Test.YtjabhnhejbhgjaaGreatDoorMany20
import Derived.Test.YtjabhnhejbhgjaaGreatDoorMany18
import Derived.Test.YtjabhnhejbhgjaaGreatDoorMany22
set_option maxRecDepth 100000
set_option maxHeartbeats 8000000
namespace Go.Proofs.YtjabhnhejbhgjaaGreatDoor
open Go.RowKit Go.Maps
theorem setCells_mid{g:Nat}{t:TypeId}{Z:List Value}:∀(vs A X:List Value) (w:World),X.length=vs.length->w.heap[g]?=some (.cells (A++X++Z).toArray t (0,0))->(w.setCells g A.length vs).heap[g]?=some (.cells (A++vs++Z).toArray t (0,0))/\But (fun b=>b=g) w (w.setCells g A.length vs)
 | [],A,X,w,hl,h=>by
  obtain rfl:X=[]:=List.length_eq_zero_iff.1 hl;exact⟨h,But.refl _ _⟩
 | v :: vs,A,X,w,hl,h=>by
  cases X with
  | nil=>simp at hl
  | cons x X=>
   have h1:=heap_setCell_same w g A.length _ _ v h;rw[List.setIfInBounds_toArray]at h1
   have e:(A++x :: X++Z).set A.length v=(A++[v])++X++Z:=by
    rw[List.append_assoc,List.set_append_right _ _ (Nat.le_refl _)];simp
   rw[e]at h1;have hb:=But.setCell (S:=fun b=>b=g) (But.refl _ w) (p:=⟨g,A.length,none⟩) (.inl rfl) v;obtain⟨h2,h3⟩:=setCells_mid vs (A++[v]) X (w.setCell ⟨g,A.length,none⟩ v) (by simpa using hl) h1;have el:(A++[v]).length=A.length+1:=by simp
   rw[el]at h2 h3;refine⟨?_,hb.trans h3⟩;show((w.setCell ⟨g,A.length,none⟩ v).setCells g (A.length+1) vs).heap[g]?=_;rw[h2];simp
def _root_.Go.World.putObj(w:World)(b:Nat)(o:Obj):World:={w with heap:=w.heap.setIfInBounds b o}
theorem putObj_same{w:World}{b:Nat}(o:Obj)(h:b<w.heap.size):(w.putObj b o).heap[b]?=some o:=by simp[World.putObj,h]
theorem putObj_but(w:World)(b:Nat)(o:Obj):But (fun x=>x=b) w (w.putObj b o):=
 ⟨rfl,rfl,rfl,by simp[World.putObj],fun k hk hn=>by
  have:¬ b=k:=fun e=>hn e.symm
  simp[World.putObj,this]⟩
def Rcv.closed(r:Rcv):Rcv:={r with kf:=fun _=>none,tk:=List.replicate 16 false,un:=[],uv:=.slice none 0 0,shut:=true}
theorem Rcv.closed_ok{r:Rcv}(ok:r.Ok):r.closed.Ok:=⟨ok.cfg,rfl,by simp[Rcv.closed],fun m kb k hm h=>by simp[Rcv.closed]at h,by show cntF _ 16<=4;rw[show r.closed.kf=fun _=>none from rfl,cnt0];omega⟩
theorem RcAt.close{w:World}{B rb:Nat}{r:Rcv}(h:RcAt w B rb r)(ht:r.tk.length=16)(clock:Nat):
 RcAt ((((w.putObj r.d (.chan 0 #[] true 0 0 false)).putObj r.mb (.map #[] clock)).setCells rb 5 (List.replicate 16 (.bool false))).setCell ⟨rb,21,none⟩ (.slice none 0 0)) B rb r.closed/\
 But (fun b=>b=rb∨b=r.d∨b=r.mb) w ((((w.putObj r.d (.chan 0 #[] true 0 0 false)).putObj r.mb (.map #[] clock)).setCells rb 5 (List.replicate 16 (.bool false))).setCell ⟨rb,21,none⟩ (.slice none 0 0)):=by
 have hdl:r.d<w.heap.size:=(Array.getElem?_eq_some_iff.1 h.chan).1;obtain⟨n,D,⟨es,ck,hm,_⟩,_⟩:=h.map;have hml:r.mb<w.heap.size:=(Array.getElem?_eq_some_iff.1 hm).1;have ndm:¬ r.d=r.mb:=fun q=>by rw[<- q,h.chan]at hm;cases hm
 have nrd:¬ rb=r.d:=fun q=>by have:=h.chan;rw[<- q,h.blk]at this;cases this
 have nrm:¬ rb=r.mb:=fun q=>by rw[<- q,h.blk]at hm;cases hm
 have b1:=putObj_but w r.d (.chan 0 #[] true 0 0 false);have b2:=putObj_but (w.putObj r.d (.chan 0 #[] true 0 0 false)) r.mb (.map #[] clock);have s1:=b1.size;have s2:=b2.size;have d1:=putObj_same (.chan 0 #[] true 0 0 false) hdl;have d2:=(b2.block r.d (by omega) ndm).trans d1;have m2:=putObj_same (.map #[] clock) (Nat.lt_of_lt_of_le hml s1);have r2:=(b2.block rb (by have:=lt_of_block h.blk;omega) nrm).trans ((b1.block rb (lt_of_block h.blk) nrd).trans h.blk);have r2':((w.putObj r.d (.chan 0 #[] true 0 0 false)).putObj r.mb (.map #[] clock)).heap[rb]?=some (.cells (([.int .i64 (r.K:Int),.int .i64 (r.N:Int),.int .i64 (r.S:Int),.chan (some r.d),.map (some r.mb)]:List Value)++r.tk.map Value.bool++[r.uv]).toArray 108 (0,0)):=r2;obtain⟨r3,b3⟩:=setCells_mid (List.replicate 16 (.bool false)) [.int .i64 (r.K:Int),.int .i64 (r.N:Int),.int .i64 (r.S:Int),.chan (some r.d),.map (some r.mb)] (r.tk.map Value.bool) _ (by simp[ht]) r2';simp only[List.length_cons,List.length_nil,Nat.zero_add,Nat.reduceAdd]at r3 b3;generalize ((w.putObj r.d (.chan 0 #[] true 0 0 false)).putObj r.mb (.map #[] clock)).setCells rb 5 (List.replicate 16 (.bool false))=W3 at *;have b4:=But.setCell (S:=fun b=>b=rb) (But.refl _ W3) (p:=⟨rb,21,none⟩) (.inl rfl) (.slice none 0 0);have r4:=heap_setCell_same W3 rb 21 _ _ (.slice none 0 0) r3;have s3:=b3.size;have d4:=(b4.block r.d (by omega) (fun q=>nrd q.symm)).trans ((b3.block r.d (by omega) (fun q=>nrd q.symm)).trans d2);have m4:=(b4.block r.mb (by omega) (fun q=>nrm q.symm)).trans ((b3.block r.mb (by omega) (fun q=>nrm q.symm)).trans m2);refine⟨⟨h.low,?_,d4,⟨0,.map [],⟨#[],clock,m4,⟨by simp,MapKept.stamped_empty _,by simp⟩,Nat.le_refl _,rfl⟩,mapIs0⟩,World.ownsRow_nil ..,fun u hu=>by simp[Rcv.closed]at hu,fun m kb k hm' he=>by simp[Rcv.closed]at he,fun m m' kb k kb' k' _ _ _ he=>by simp[Rcv.closed]at he,fun u hu=>by simp[Rcv.closed]at hu⟩,?_⟩
 ·rw[r4,List.setIfInBounds_toArray]
  rfl
 ·exact(((b1.wide (fun b _ q=>.inr (.inl q))).trans (b2.wide (fun b _ q=>.inr (.inr q)))).trans (b3.wide (fun b _ q=>.inl q))).trans (b4.wide (fun b _ q=>.inl q))
theorem zeroB(w:World):(zeroValue 4).run Tryz.prog w=.ok (.bool false) w:=by kernel_rfl
theorem clear_map{w:World}{r clock:Nat}{es:Array MapEntry}(hb:w.heap[r]?=some (.map es clock))(ty:TypeId):(Builtin.clear_ #[105] ty #[.map (some r)]).run Tryz.prog w=.ok (.tuple #[]) (w.putObj r (.map #[] clock)):=by
 simp[Builtin.clear_,run_underlying Tryz.underlying105,MapKept.run_getObj_map hb,MapKept.run_setObj_map _ hb,Result.andThen,World.putObj]
theorem close_any{A:Nat->Addr}{B0 B rb:Nat}{r:Rcv}{w:World}(h:RcAt w B rb r)(ok:r.Ok)(hE:Errs A B0 w):
 Calls Tryz.prog 23 #[.pointer (some ⟨rb,0,none⟩)] w fun e w'=>
  (r.shut=true/\e=.returned (E A 8)/\w'=w)∨(r.shut=false/\e=.returned .nilIface/\RcAt w' B rb r.closed/\But (fun b=>b=rb∨b=r.d∨b=r.mb) w w'):=by
 have HC:=h.isClosed;obtain⟨_,_,_,c3,c4⟩:=h.head;have g7:w.cell? ⟨0,0,none⟩=some (.iface 269 (.pointer (some (A 7)))):=hE.cell 7 (by omega)
 cases hs:r.shut with
 | true=>
  rw[hs]at HC;go_enter Tryz.func23,Tryz.ntmps23;go_wp2_with fail;refine HC.mono ?_;rintro e w1 ⟨rfl,rfl⟩;go_wp2_with fail;go_ret;exact .inl ⟨by first | trivial|exact hs,rfl,rfl⟩
 | false=>
  rw[hs]at HC;obtain⟨n,D,⟨es,clock,hm,_⟩,_⟩:=h.map;have hch:w.heap[r.d]?=some (.chan 0 #[] false 0 0 false):=by have:=h.chan;rw[hs]at this;exact this
  have hcl:∀ ats ty,(Builtin.close_ ats ty #[.chan (some r.d)]).run Tryz.prog w=.ok (.tuple #[]) (w.putObj r.d (.chan 0 #[] true 0 0 false)):=fun ats ty=>run_close_open ats ty hch
  have ndm:¬ r.mb=r.d:=fun q=>by rw[q,hch]at hm;cases hm
  have nrd:¬ rb=r.d:=fun q=>by rw[<- q,h.blk]at hch;cases hch
  have nrm:¬ rb=r.mb:=fun q=>by rw[<- q,h.blk]at hm;cases hm
  have b1:=putObj_but w r.d (.chan 0 #[] true 0 0 false);have hm1:=(b1.block r.mb (Array.getElem?_eq_some_iff.1 hm).1 ndm).trans hm;have hrb1:=(b1.block rb (lt_of_block h.blk) nrd).trans h.blk;have hcm:=fun ty=>clear_map hm1 ty
  have HFIN:Hid _:=h.close ok.tk clock;have hs1:=b1.size;have b2:=putObj_but (w.putObj r.d (.chan 0 #[] true 0 0 false)) r.mb (.map #[] clock);have hrb2:=(b2.block rb (lt_of_block hrb1) nrm).trans hrb1;have hlen:r.cells.length=22:=by simp[Rcv.cells,ok.tk]
  have c4':(w.putObj r.d (.chan 0 #[] true 0 0 false)).cell? ⟨rb,4,none⟩=some (.map (some r.mb)):=by rw[cell_of_row _ rb 4 _ _ _ hrb1];rfl
  have hcs:∀ ty,(Builtin.clear_ #[55] ty #[.slice (some ⟨rb,5,none⟩) 16 16]).run Tryz.prog ((w.putObj r.d (.chan 0 #[] true 0 0 false)).putObj r.mb (.map #[] clock))=.ok (.tuple #[]) (((w.putObj r.d (.chan 0 #[] true 0 0 false)).putObj r.mb (.map #[] clock)).setCells rb 5 (List.replicate 16 (.bool false))):=fun ty=>
   Lib.run_clear_slice _ 55 4 ty (.bool false) Tryz.underlying55 zeroB rfl rfl rb 5 16 16 (by omega) (fun j hj=>by rw[cell_of_row _ rb (5+j) _ _ _ hrb2,List.getElem?_toArray,List.getElem?_eq_getElem (by omega)];rfl) (fun j hj=>frozen_of_row _ rb (5+j) _ _ hrb2)
  have c21:(((w.putObj r.d (.chan 0 #[] true 0 0 false)).putObj r.mb (.map #[] clock)).setCells rb 5 (List.replicate 16 (.bool false))).cell? ⟨rb,21,none⟩=some r.uv:=by
   rw[World.cell?_setCells_out rb _ _ _ _ (fun _ _=>.inr (by simp)),cell_of_row _ rb 21 _ _ _ hrb2,<- cell_of_row w rb 21 _ _ _ h.blk];exact h.last ok.tk
  have f21:(((w.putObj r.d (.chan 0 #[] true 0 0 false)).putObj r.mb (.map #[] clock)).setCells rb 5 (List.replicate 16 (.bool false))).frozen? ⟨rb,21,none⟩=false:=by
   rw[World.frozen?_setCells];exact frozen_of_row _ rb 21 _ _ hrb2
  clear h hm hch hm1 hrb1 hrb2 b1 b2 hs1;generalize List.replicate 16 (Value.bool false)=fs at HFIN hcs c21 f21;go_enter Tryz.func23,Tryz.ntmps23;go_wp2_with fail;refine HC.mono ?_;rintro e w1 ⟨rfl,rfl⟩;go_upto_region 4 with fail;generalize w1.putObj r.d (.chan 0 #[] true 0 0 false)=W1 at *;go_upto_region 5 with fail;generalize W1.putObj r.mb (.map #[] clock)=W2 at *;go_upto_region 6 with fail;generalize W2.setCells rb 5 fs=W3 at *;go_wp2_with fail;go_ret;exact .inr ⟨trivial,rfl,HFIN.out.1,HFIN.out.2⟩
def ptrVal(x:Option (Nat×Kn)):Value:=match x with
 | some (kb,_)=>.pointer (some ⟨kb,0,none⟩)
 | none=>.pointer none
theorem zeroK(w:World):(zeroValue 102).run Tryz.prog w=.ok (.pointer none) w:=by kernel_rfl
theorem key16{m:Nat}(h:m<16):keyOf Tryz.prog 3 (.int .i64 m)=some (.int .i64 m):=keyOf_int_mk Tryz.underlying3 (int_wf (by omega))
theorem RcAt.look{w:World}{B rb m:Nat}{r:Rcv}(h:RcAt w B rb r)(hm:m<16):
 (Instr.lookup 105 (.map (some r.mb)) (.int .i64 m) true).run Tryz.prog w=.ok (.tuple #[ptrVal (r.kf m),.bool (r.kf m).isSome]) w:=by
 obtain⟨n,D,hD,hM⟩:=h.map;obtain⟨v,ps,hr,hv⟩:=hD.look_ok Tryz.intKeyed Tryz.underlying105 (zeroK w) ptrElem_nil (key16 hm);rw[hr,hM.has m hm];rw[hM.at_ m hm]at hv
 cases hk:r.kf m with
 | none=>
  rw[hk]at hv;rw[ptrElem_inv.1 hv];rfl
 | some x=>
  obtain⟨kb,k⟩:=x;rw[hk]at hv;rw[ptrElem_inv.2 kb hv];rfl
theorem RcAt.len{w:World}{B rb:Nat}{r:Rcv}(h:RcAt w B rb r)(ty:TypeId):
 (Builtin.len_ #[105] ty #[.map (some r.mb)]).run Tryz.prog w=.ok (.int .i64 (cntF r.kf 16:Int)) w:=by
 obtain⟨n,D,hD,hM⟩:=h.map;rw[hD.len Tryz.underlying105 ty,hM.size]
def updF{α:Type}(f:Nat->Option α)(m:Nat)(x:Option α):Nat->Option α:=fun i=>if i=m then x else f i
theorem updF_same{α:Type}(f:Nat->Option α)(m:Nat)(x:Option α):updF f m x m=x:=if_pos rfl
theorem updF_other{α:Type}(f:Nat->Option α){m i:Nat}(x:Option α)(h:i≠m):updF f m x i=f i:=if_neg h
theorem cnt_upd_ge{α:Type}(f:Nat->Option α)(m:Nat)(x:Option α):∀ n,n<=m->cntF (updF f m x) n=cntF f n
 | 0,_=>rfl
 | n+1,h=>by
  unfold cntF;rw[cnt_upd_ge f m x n (by omega),updF_other f x (by omega)]
theorem cnt_upd{α:Type}(f:Nat->Option α)(m:Nat)(x:Option α):∀ n,m<n->cntF (updF f m x) n+(if(f m).isSome then 1 else 0)=cntF f n+(if x.isSome then 1 else 0)
 | 0,h=>by omega
 | n+1,h=>by
  unfold cntF;by_cases he:n=m
  ·subst he
   rw[cnt_upd_ge f n x n (Nat.le_refl _),updF_same];omega
  ·have:=cnt_upd f m x n (by omega)
   rw[updF_other f x he];omega
theorem lit_ne{m i:Nat}(h:i≠m):(Lit.int .i64 i)≠.int .i64 m:=fun e=>by
 simp only[Lit.int.injEq]at e;omega
theorem key_lit(m:Nat):WideAt.IsKeyLit (.int .i64 m):=by
 simp[WideAt.IsKeyLit]
theorem MapIs.put{D:DataW Unit}{kf:Nat->Option (Nat×Kn)}(h:MapIs D kf)(ht:Tidy D){m:Nat}(hm:m<16)(hn:kf m=none)(kb:Nat)(k:Kn):
 MapIs (D.put (.int .i64 m) (.lit (.int .i64 kb))) (updF kf m (some (kb,k))):=by
 refine⟨fun i hi=>?_,fun i hi=>?_,?_⟩
 ·by_cases e:i=m
  ·subst e
   rw[has_put_same ht.isMap (key_lit i),updF_same];rfl
  ·rw[has_put_other (lit_ne e),updF_other _ _ e,h.has i hi]
 ·by_cases e:i=m
  ·subst e
   rw[atKey_put_same ht.isMap (key_lit i),updF_same];rfl
  ·rw[atKey_put_other (lit_ne e),updF_other _ _ e,h.at_ i hi]
 ·rw[size_put ht,h.has m hm,hn,h.size]
  have:=cnt_upd kf m (some (kb,k)) 16 hm;rw[hn]at this;simp at this ⊢;omega
theorem MapIs.del{D:DataW Unit}{kf:Nat->Option (Nat×Kn)}(h:MapIs D kf)(ht:Tidy D){m:Nat}(hm:m<16):
 MapIs (D.del (.int .i64 m)) (updF kf m none):=by
 refine⟨fun i hi=>?_,fun i hi=>?_,?_⟩
 ·by_cases e:i=m
  ·subst e
   rw[has_del_same,updF_same];rfl
  ·rw[has_del_other (lit_ne e),updF_other _ _ e,h.has i hi]
 ·by_cases e:i=m
  ·subst e
   rw[atKey_del_same,updF_same];rfl
  ·rw[atKey_del_other (lit_ne e),updF_other _ _ e,h.at_ i hi]
 ·have h1:=size_del (k:=.int .i64 m) ht
  rw[h.has m hm,h.size]at h1;have h2:=cnt_upd kf m none 16 hm;simp at h2;omega
def Rcv.put(r:Rcv)(m kb:Nat)(k:Kn):Rcv:={r with kf:=updF r.kf m (some (kb,k))}
theorem Rcv.put_ok{r:Rcv}(ok:r.Ok){m kb:Nat}{k:Kn}(hm:m<16)(hn:r.kf m=none)(hf:cntF r.kf 16<4)(hk:k.Ok/\k.K=r.K/\k.N=r.N/\k.S=r.S):(r.put m kb k).Ok:=by
 refine⟨ok.cfg,ok.tk,ok.un,fun i b q hi e=>?_,?_⟩
 ·unfold Rcv.put at e
  by_cases he:i=m
  ·subst he
   simp only[updF_same,Option.some.injEq,Prod.mk.injEq]at e;obtain⟨rfl,rfl⟩:=e;exact hk
  ·simp only[updF_other _ _ he]at e
   exact ok.known i b q hi e
 ·show cntF (updF r.kf m (some (kb,k))) 16<=4
  have:=cnt_upd r.kf m (some (kb,k)) 16 hm;rw[hn]at this;simp at this;omega
theorem turned_but{w w':World}{b:Nat}(h:w.mapTurned w' b):But (fun x=>x=b) w w':=by
 obtain⟨es,clock,es',clock',hb,rfl⟩:=h;exact putObj_but w b (.map es' clock')
theorem KAt.isCells{w:World}{B kb b:Nat}{k:Kn}(h:KAt w B kb k)(hb:k.foot kb b):∃ cs t,w.heap[b]?=some (.cells cs t (0,0)):=by
 rcases hb with q|q|⟨i,hi,q|q|⟨r,hr',q⟩⟩
 ·exact⟨_,_,q ▸ h.blk⟩
 ·exact⟨_,_,q ▸ h.row⟩
 ·obtain⟨c,hc⟩:=own_block (h.places i hi) q
  exact⟨_,_,hc⟩
 ·obtain⟨c,hc⟩:=own_block (h.syms i hi) q
  exact⟨_,_,hc⟩
 ·obtain⟨c,hc⟩:=own_block (h.bytes i hi r hr').2 (g:=r.b) (r.own.2 trivial)
  exact⟨_,_,q ▸ hc⟩
theorem RcAt.turn{w w':World}{B rb n:Nat}{r:Rcv}{D:DataW Unit}{kf:Nat->Option (Nat×Kn)}(h:RcAt w B rb r)(hb:But (fun b=>b=r.mb) w w')(hD:w'.ownsMap Tryz.prog 3 ptrElem r.mb n D)(hM:MapIs D kf)
 (hk:∀ m kb k,m<16->kf m=some (kb,k)->KAt w B kb k)
 (ha:∀ m m' kb k kb' k',m<16->m'<16->m≠m'->kf m=some (kb,k)->kf m'=some (kb',k')->∀ b,k.foot kb b->¬ k'.foot kb' b)
 (hu:∀ u ∈ r.un,∀ m kb k,m<16->kf m=some (kb,k)->¬ k.foot kb u.g):RcAt w' B rb {r with kf:=kf}:=by
 obtain⟨_,_,⟨es,ck,hmb,_⟩,_⟩:=h.map;have hq:∀ b:Nat,(∃ cs t,w.heap[b]?=some (.cells cs t (0,0)))->w'.heap[b]?=w.heap[b]?:=fun b ⟨cs,t,e⟩=>hb.block b (lt_of_block e) (fun q=>by rw[q,hmb]at e;cases e)
 refine⟨h.low,(hq rb ⟨_,_,h.blk⟩).trans h.blk,(hb.block r.d (Array.getElem?_eq_some_iff.1 h.chan).1 (fun q=>by have:=h.chan;rw[q,hmb]at this;cases this)).trans h.chan,⟨_,_,hD,hM⟩,own_of_block h.own (fun g hg=>hq g ?_),fun u hu=>?_,fun i b q hi e=>(hk i b q hi e).kept (fun x hx=>hq x ((hk i b q hi e).isCells hx)),ha,hu⟩
 ·obtain⟨c,hc⟩:=own_block h.own hg
  exact⟨_,_,hc⟩
 ·obtain⟨h1,⟨cs,h2⟩,h3⟩:=h.objs u hu
  have he:=hq u.g ⟨_,_,h2⟩;refine⟨h1,⟨cs,he.trans h2⟩,fun i hi=>?_⟩;have hc:w'.cell? ⟨u.g,0+i,none⟩=w.cell? ⟨u.g,0+i,none⟩:=World.cell?_of_block (w:=w) (a:=⟨u.g,0+i,none⟩) he;rw[hc];exact h3 i hi
theorem RcAt.put{w:World}{B rb m kb:Nat}{r:Rcv}{k:Kn}(h:RcAt w B rb r)(hm:m<16)(hn:r.kf m=none)(hf:cntF r.kf 16<4)(hk:KAt w B kb k)(ha:∀ b,k.foot kb b->¬ r.foot rb b):
 ∃ w',(Instr.mapUpdate 105 (.map (some r.mb)) (.int .i64 m) (.pointer (some ⟨kb,0,none⟩))).run Tryz.prog w=.ok () w'/\RcAt w' B rb (r.put m kb k)/\But (fun b=>b=r.mb) w w':=by
 obtain⟨n,D,hD,hM⟩:=h.map;have hT:=hD.tidy Tryz.intKeyed;have hD1:=World.ownsMap.tight hD;obtain⟨w',hr,hD2,ht⟩:=hD1.store Tryz.intKeyed Tryz.underlying105 (by rw[hM.size];unfold maxLen;omega) (key16 hm) (ptrElem_some kb);have hb:=turned_but ht;refine⟨w',hr,h.turn hb hD2 (hM.put hT hm hn kb k) (fun i b q hi e=>?_) (fun i i' b q b' q' hi hi' hne e e'=>?_) (fun u hu i b q hi e=>?_),hb⟩
 ·by_cases he:i=m
  ·subst he
   rw[updF_same]at e;cases e;exact hk
  ·rw[updF_other _ _ he]at e
   exact h.known i b q hi e
 ·by_cases he:i=m
  ·subst he
   rw[updF_same]at e;cases e;rw[updF_other _ _ (Ne.symm hne)]at e';exact fun x hx hx'=>ha x hx (.inr (.inr (.inr (.inr (.inr ⟨i',b',q',hi',e',hx'⟩)))))
  ·rw[updF_other _ _ he]at e
   by_cases he':i'=m
   ·subst he'
    rw[updF_same]at e';cases e';exact fun x hx hx'=>ha x hx' (.inr (.inr (.inr (.inr (.inr ⟨i,b,q,hi,e,hx⟩)))))
   ·rw[updF_other _ _ he']at e'
    exact h.apart i i' b q b' q' hi hi' hne e e'
 ·by_cases he:i=m
  ·subst he
   rw[updF_same]at e;cases e;exact fun hx=>ha _ hx (.inr (.inr (.inr (.inr (.inl ⟨u,hu,rfl⟩)))))
  ·rw[updF_other _ _ he]at e
   exact h.apartU u hu i b q hi e
def Rcv.strike(r:Rcv)(m:Nat):Rcv:={r with kf:=updF r.kf m none}
theorem RcAt.strike{w:World}{B rb m:Nat}{r:Rcv}(h:RcAt w B rb r)(hm:m<16):
 ∃ w',(∀ ty,(Builtin.delete_ #[105,3] ty #[.map (some r.mb),.int .i64 m]).run Tryz.prog w=.ok (.tuple #[]) w')/\RcAt w' B rb (r.strike m)/\But (fun b=>b=r.mb) w w':=by
 obtain⟨n,D,hD,hM⟩:=h.map;have hT:=hD.tidy Tryz.intKeyed;obtain⟨w',hr,hD2,ht⟩:=hD.drop Tryz.intKeyed Tryz.underlying105 (key16 hm) 0;have hb:=turned_but ht
 have hs:∀ {i b q},updF r.kf m none i=some (b,q)->r.kf i=some (b,q):=fun {i b q} e=>by
  by_cases he:i=m
  ·subst he
   rw[updF_same]at e;cases e
  ·rwa [updF_other _ _ he]at e
 exact⟨w',fun _=>hr,h.turn hb hD2 (hM.del hT hm) (fun i b q hi e=>h.known i b q hi (hs e)) (fun i i' b q b' q' hi hi' hne e e'=>h.apart i i' b q b' q' hi hi' hne (hs e) (hs e')) (fun u hu i b q hi e=>h.apartU u hu i b q hi (hs e)),hb⟩
theorem KAt.base{w:World}{B B' kb:Nat}{k:Kn}(h:KAt w B kb k)(hB:B'<=B):KAt w B' kb k:=
 ⟨Nat.le_trans hB h.low,h.blk,Nat.le_trans hB h.low2,h.row,fun i hi=>own_base2 (h.places i hi) hB,fun i hi=>own_base2 (h.syms i hi) hB,fun i hi r hr=>⟨Nat.le_trans hB (h.bytes i hi r hr).1,own_base2 (h.bytes i hi r hr).2 hB⟩,h.apartP,h.apartS,h.apartR⟩
def ObjGives(A:Nat->Addr)(r:Rcv)(m len B rb:Nat)(w:World)(e:Ending)(w':World):Prop:=
 (∃ kb k,r.kf m=some (kb,k)/\k.len=len/\e=.returned (.tuple #[.pointer (some ⟨kb,0,none⟩),.nilIface])/\Below w.heap.size w w')∨
 (∃ kb k v,r.kf m=some (kb,k)/\k.len≠len/\e=.returned (.tuple #[.pointer none,v])/\Wr w w' v 2 (E A 6)/\Below w.heap.size w w')∨
 (r.kf m=none/\cntF r.kf 16=4/\e=.returned (.tuple #[.pointer none,E A 3])/\Below w.heap.size w w')∨
 (r.kf m=none/\cntF r.kf 16<4/\∃ kb bg,e=.returned (.tuple #[.pointer (some ⟨kb,0,none⟩),.nilIface])/\(w.heap.size<=kb/\w.heap.size<=bg)/\RcAt w' B rb (r.put m kb (kn0 r.K r.N r.S len bg))/\But (fun b=>b=r.mb) w w')
theorem objectOf_any{A:Nat->Addr}{B0 B rb m len kd x3 x4:Nat}{v5 v6:Value}{r:Rcv}{w:World}(h:RcAt w B rb r)(ok:r.Ok)(hE:Errs A B0 w)(hm:m<16)(hlen:len<=255):
 Calls Tryz.prog 45 #[.pointer (some ⟨rb,0,none⟩),.agg #[.int .i64 kd,.int .i64 m,.int .i64 len,.int .i64 x3,.int .i64 x4,v5,v6]] w (ObjGives A r m len B rb w):=by
 have hX:=heap_alloc_new w (.cells #[.int .i64 kd,.int .i64 m,.int .i64 len,.int .i64 x3,.int .i64 x4,v5,v6] 60);have hb1:=(Below.refl w.heap.size w).alloc (Nat.le_refl _) (.cells #[.int .i64 kd,.int .i64 m,.int .i64 len,.int .i64 x3,.int .i64 x4,v5,v6] 60);have hfl:∀ {b},r.foot rb b->b<w.heap.size:=fun q=>(h.foot_lt q).2
 go_enter Tryz.func45,Tryz.ntmps45;go_upto_region 1 with fail;generalize w.alloc (.cells #[.int .i64 kd,.int .i64 m,.int .i64 len,.int .i64 x3,.int .i64 x4,v5,v6] 60)=W at *;obtain⟨y0,y1,y2,y3,y4,y5,y6⟩:=pk7 hX;have h1:=h.above hb1;obtain⟨d0,d1,d2,d3,d4⟩:=h1.head;have HL:∀ n,(Instr.lookup 105 (.map (some r.mb)) (.int .i64 m) true).run Tryz.prog (W.drewN n)=.ok (.tuple #[ptrVal (r.kf m),.bool (r.kf m).isSome]) (W.drewN n):=fun n=>(h1.above (below_drew (nq:=n) rfl)).look hm
 have hs1:=hb1.size;have hE1:=hE.shrink W hb1;have g5:W.cell? ⟨2,0,none⟩=some (.iface 269 (.pointer (some (A 5)))):=hE1.cell 5 (by omega);have g2:W.cell? ⟨1,0,none⟩=some (.iface 269 (.pointer (some (A 2)))):=hE1.cell 2 (by omega)
 cases hk:r.kf m with
 | some x=>
  obtain⟨kb,k⟩:=x;rw[hk]at HL;have HL':∀ n,(Instr.lookup 105 (.map (some r.mb)) (.int .i64 m) true).run Tryz.prog (W.drewN n)=.ok (.tuple #[.pointer (some ⟨kb,0,none⟩),.bool true]) (W.drewN n):=HL;clear HL;have hK:=h1.known m kb k hm hk;have HLEN:=glength_any hK;have HWR:Hid (∀(X:World) (z:Int) (k:Nat),Below w.heap.size w X->Wr w (X.alloc (.cells #[.int .i64 z,.iface 269 (.pointer (some (A k)))] 168)) (.iface 166 (.pointer (some ⟨X.heap.size,0,none⟩))) z (E A (k+1))/\Below w.heap.size w (X.alloc (.cells #[.int .i64 z,.iface 269 (.pointer (some (A k)))] 168))):=fun X z k hW=>⟨⟨X.heap.size,rfl,hW.size,heap_alloc_new X _⟩,hW.alloc hW.size _⟩
  go_quiet (fail)
  go_upto_region 2 with fail;obtain⟨W2,hW2⟩:∃ x,x=W.drewN nq:=⟨_,rfl⟩;rw[<- hW2];have hb2:=hb1.trans ((below_drew hW2).mono hs1);have HB2:Hid (Below w.heap.size w W2):=hb2;have hX2:=((below_drew hW2).block w.heap.size (lt_of_block hX)).trans hX;have hK2:=hK.above (below_drew hW2);have hE2:=hE.shrink W2 hb2;clear y0 y1 y2 y3 y4 y5 y6 d0 d1 d2 d3 d4 HL' HLEN g5 g2 hX hK h1 hE1;have HLEN:∀ n,Calls Tryz.prog 38 #[.pointer (some ⟨kb,0,none⟩)] (W2.drewN n) fun e w'=>e=.returned (.int .i64 (k.len:Int))/\∃ n',w'=W2.drewN n':=fun n=>(glength_any (hK2.above (below_drew (nq:=n) rfl))).mono (fun e w' ⟨p,q⟩=>⟨p,n,q⟩)
  obtain⟨y0,y1,y2,y3,y4,y5,y6⟩:=pk7 hX2;have g5:W2.cell? ⟨2,0,none⟩=some (.iface 269 (.pointer (some (A 5)))):=hE2.cell 5 (by omega);clear hX2 hK2 hE2 hW2 hb2 h hE;by_cases hq:k.len=len
  ·subst hq
   go_quiet (exact HLEN _)
   go_wp2_with fail;go_ret2;exact .inl ⟨kb,k,hk,rfl,rfl,HB2.out.trans ((below_drew rfl).mono HB2.out.size)⟩
  ·have hq1:¬(k.len:Int)=(len:Int):=by omega
   go_quiet (exact HLEN _)
   go_wp2_with (go_at_call 41;refine(wrong_any _ _ _ _).mono ?_;rintro e w' ⟨rfl,rfl⟩);go_ret2;have hbq:=HB2.out.trans ((below_drew (w:=W2) (nq:=nq) rfl).mono HB2.out.size);exact .inr (.inl ⟨kb,k,_,hk,hq,rfl,(HWR.out _ 2 5 hbq).1,(HWR.out _ 2 5 hbq).2⟩)
 | none=>
  rw[hk]at HL;have HL':∀ n,(Instr.lookup 105 (.map (some r.mb)) (.int .i64 m) true).run Tryz.prog (W.drewN n)=.ok (.tuple #[.pointer none,.bool false]) (W.drewN n):=HL;clear HL
  go_quiet (fail)
  go_upto_region 2 with fail;obtain⟨W1,hW1⟩:∃ x,x=W.drewN nq:=⟨_,rfl⟩;rw[<- hW1];have hA:=below_drew hW1
  go_quiet (fail)
  go_upto_region 6 with fail;obtain⟨W2,hW2⟩:∃ x,x=W1.drewN nq:=⟨_,rfl⟩;rw[<- hW2];have hb2:=hb1.trans ((hA.trans ((below_drew hW2).mono hA.size)).mono hs1);have HB2:Hid (Below w.heap.size w W2):=hb2;have hX2:=((hA.trans ((below_drew hW2).mono hA.size)).block w.heap.size (lt_of_block hX)).trans hX;have h2:=h.above hb2;have hE2:=hE.shrink W2 hb2;clear y0 y1 y2 y3 y4 y5 y6 d0 d1 d2 d3 d4 HL' g5 g2 hX h1 hE1 hW1 hW2 hA hb1 hs1 h hE;obtain⟨y0,y1,y2,y3,y4,y5,y6⟩:=pk7 hX2;obtain⟨d0,d1,d2,d3,d4⟩:=h2.head;have HLN:=fun ty=>h2.len ty
  have hcf:=ok.few;by_cases hc:cntF r.kf 16=4
  ·have g2:W2.cell? ⟨1,0,none⟩=some (.iface 269 (.pointer (some (A 2)))):=hE2.cell 2 (by omega)
   clear hX2 h2 hE2 hb2;rw[hc]at HLN;go_upto_region 7 with fail
   go_quiet (fail)
   go_wp2_with fail;go_ret2;exact .inr (.inr (.inl ⟨hk,hc,rfl,HB2.out.trans ((below_drew rfl).mono HB2.out.size)⟩))
  ·have hc1:¬(cntF r.kf 16:Int)=4:=by omega
   have HC:=ok.cfg;go_upto_region 8 with fail
   go_cut[6] (fun t wx=>∃ kb bg,t=.pointer (some ⟨kb,0,none⟩)/\KAt wx W2.heap.size kb (kn0 r.K r.N r.S len bg)/\Below W2.heap.size W2 wx)
   case first=>
    clear hX2 h2 hE2 hb2 y0 y1 y3 y4 y5 y6 d3 d4 HLN
    go_region_with (go_at_call 75;refine(gof_any r.K r.N r.S len HC hlen _).mono ?_;rintro e w1 ⟨kb,bg,rfl,hK1,hb3⟩)
    all_goals go_wp2_with fail
    all_goals go_meet
    all_goals exact⟨kb,bg,rfl,hK1,Below.undraw hb3⟩
   case rest=>
    obtain⟨kb,bg,rfl,hK3,hb3⟩:=hcut;have hs2:=hb2.size;have h3:=h2.above hb3;have hX3:=(hb3.block w.heap.size (lt_of_block hX2)).trans hX2;have hB2:B<=W2.heap.size:=Nat.le_trans h2.low.1 (Nat.le_of_lt (lt_of_block h2.blk));have hf2:∀ {b},r.foot rb b->b<W2.heap.size:=fun q=>(h2.foot_lt q).2
    have hcell:Below wc.heap.size wc wc.drew:=(Below.refl _ wc).drew;obtain⟨W6,HPUT,hR6,hB6⟩:=(h3.above hcell).put hm hk (by omega) ((hK3.above hcell).base hB2) (fun b q q'=>by have:=((hK3.foot_lt q)).1;have:=hf2 q';omega);have HFIN:Hid _:=And.intro hR6 hB6;have HB3:Hid _:=hb3;have HKB:Hid (W2.heap.size<=kb/\W2.heap.size<=bg):=⟨hK3.low,hK3.low2⟩;clear y0 y1 y2 y3 y4 y5 y6 d0 d1 d2 d3 d4 HLN hX2 h2 hE2 hb2;obtain⟨y0,y1,y2,y3,y4,y5,y6⟩:=pk7 hX3;obtain⟨d0,d1,d2,d3,d4⟩:=h3.head;clear hK3 hb3 h3 hX3 hR6 hB6;go_upto_region 9 with fail;have HBUT:Hid (But (fun b=>b=r.mb) w W6):=(Below.but (HB2.out.trans ((HB3.out.trans (hcell.mono HB3.out.size)).mono HB2.out.size)) _ (fun i h1 h2=>absurd h1 h2)).trans HFIN.out.2
    go_region_with fail
    all_goals go_wp2_with fail
    all_goals go_ret2
    all_goals exact .inr (.inr (.inr ⟨hk,by omega,kb,bg,rfl,⟨Nat.le_trans HB2.out.size HKB.out.1,Nat.le_trans HB2.out.size HKB.out.2⟩,HFIN.out.1,HBUT.out⟩))
theorem KAt.notTy{w:World}{B kb b:Nat}{k:Kn}{cs:Array Value}(h:KAt w B kb k)(hr:w.heap[b]?=some (.cells cs 136 (0,0))):¬ k.foot kb b:=by
 intro q;rcases q with q|q|⟨i,hi,q|q|⟨r,hr',q⟩⟩
 ·have hk:=h.blk
  rw[<- q,hr]at hk;simp only[Option.some.injEq,Obj.cells.injEq]at hk;exact absurd hk.2.1 (by decide)
 ·have hk:=h.row
  rw[<- q,hr]at hk;simp only[Option.some.injEq,Obj.cells.injEq]at hk;exact absurd hk.2.1 (by decide)
 ·exact own_ne (h.places i hi) q hr (by decide) rfl
 ·exact own_ne (h.syms i hi) q hr (by decide) rfl
 ·exact own_ne (h.bytes i hi r hr').2 (g:=r.b) (r.own.2 trivial) hr (by decide) q
def Rcv.took(r:Rcv)(u:Un)(v:Value):Rcv:={r with un:=r.un++[u],uv:=v,tk:=r.tk.set u.n true}
theorem Rcv.took_cells(r:Rcv)(u:Un)(v:Value)(ht:r.tk.length=16)(hn:u.n<16):(r.cells.set 21 v).set (5+u.n) (.bool true)=(r.took u v).cells:=by
 unfold Rcv.cells Rcv.took;rw[List.set_append_right _ _ (by simp[ht]),List.set_append_left _ _ (by simp[ht];omega),List.set_append_right _ _ (by simp)];simp[ht,List.map_set]
theorem RcAt.took{w w3:World}{B rb:Nat}{r:Rcv}{u:Un}{v:Value}(h:RcAt w B rb r)(ht:r.tk.length=16)(hn:u.n<16)
 (hs:w.heap.size<=w3.heap.size) (hk:∀ b,b<w.heap.size->¬ r.uv.ownBlock=some b->w3.heap[b]?=w.heap[b]?)
 (hown:w3.ownsRow B 136 2 v (r.un.length+1) (flat2 (unVals (r.un++[u]))))
 (hg:B<=u.g/\(∃ cs,w.heap[u.g]?=some (.cells cs 5 (0,0)))/\Bs w u.g 0 u.l) (ha:∀ m kb k,m<16->r.kf m=some (kb,k)->¬ k.foot kb u.g):
 RcAt ((w3.setCell ⟨rb,21,none⟩ v).setCell ⟨rb,5+u.n,none⟩ (.bool true)) B rb (r.took u v):=by
 have hc:∀(b:Nat) cs t,w.heap[b]?=some (.cells cs t (0,0))->136≠t->w3.heap[b]?=w.heap[b]?:=fun b cs t e hne=>hk b (lt_of_block e) (fun q=>own_ne h.own q e hne rfl)
 have h3:=(hc rb _ _ h.blk (by decide)).trans h.blk;have h4:=heap_setCell_same w3 rb 21 _ _ v h3;have h5:=heap_setCell_same _ rb (5+u.n) _ _ (.bool true) h4;rw[List.setIfInBounds_toArray,List.setIfInBounds_toArray,r.took_cells u v ht hn]at h5;have hb:=But.setCell (S:=fun b=>b=rb) (But.setCell (S:=fun b=>b=rb) (But.refl _ w3) (p:=⟨rb,21,none⟩) (.inl rfl) v) (p:=⟨rb,5+u.n,none⟩) (.inl rfl) (.bool true);generalize (w3.setCell ⟨rb,21,none⟩ v).setCell ⟨rb,5+u.n,none⟩ (.bool true)=W at *
 have hW:∀(b:Nat) cs t,w.heap[b]?=some (.cells cs t (0,0))->136≠t->108≠t->W.heap[b]?=w.heap[b]?:=fun b cs t e hne hnr=>
  (hb.block b (Nat.lt_of_lt_of_le (lt_of_block e) hs) (fun q=>by rw[q,h.blk]at e;simp only[Option.some.injEq,Obj.cells.injEq]at e;exact hnr e.2.1)).trans (hc b cs t e hne)
 have hO:∀(b:Nat) o,w.heap[b]?=some o->(∀ cs t fr,o≠.cells cs t fr)->W.heap[b]?=some o:=fun b o e hne=>by
  have hl:=(Array.getElem?_eq_some_iff.1 e).1;refine((hb.block b (Nat.lt_of_lt_of_le hl hs) (fun q=>?_)).trans (hk b hl (fun q=>?_))).trans e
  ·rw[q,h.blk]at e
   exact hne _ _ _ (Option.some.inj e).symm
  ·obtain⟨c,hcc⟩:=own_block h.own q
   rw[hcc]at e;exact hne _ _ _ (Option.some.inj e).symm
 have hob:∀ x:Un,(B<=x.g/\(∃ cs,w.heap[x.g]?=some (.cells cs 5 (0,0)))/\Bs w x.g 0 x.l)->(B<=x.g/\(∃ cs,W.heap[x.g]?=some (.cells cs 5 (0,0)))/\Bs W x.g 0 x.l):=fun x ⟨h1,⟨cs,h2⟩,h3⟩=>by
  have he:=hW x.g _ _ h2 (by decide) (by decide);refine⟨h1,⟨cs,he.trans h2⟩,fun i hi=>?_⟩;have hcc:W.cell? ⟨x.g,0+i,none⟩=w.cell? ⟨x.g,0+i,none⟩:=World.cell?_of_block (w:=w) (a:=⟨x.g,0+i,none⟩) he;rw[hcc];exact h3 i hi
 refine⟨h.low,h5,hO _ _ h.chan (fun _ _ _ q=>by cases q),?_,?_,fun x hx=>?_,fun m kb k hm he=>(h.known m kb k hm he).kept (fun b q=>?_),h.apart,fun x hx m kb k hm he=>?_⟩
 ·obtain⟨n,D,⟨es,clock,hm,hr⟩,hM⟩:=h.map
  exact⟨n,D,⟨es,clock,hO _ _ hm (fun _ _ _ q=>by cases q),hr⟩,hM⟩
 ·show W.ownsRow B _ 2 v (r.un++[u]).length (flat2 (unVals (r.un++[u])))
  rw[List.length_append];exact own_of_block hown (fun g hg=>hb.block g (hown.lt g hg).2 (fun q=>own_ne hown hg h3 (by decide) q))
 ·rcases List.mem_append.1 hx with q|q
  ·exact hob x (h.objs x q)
  ·rw[List.mem_singleton.1 q]
   exact hob u hg
 ·have hl:=((h.known m kb k hm he).foot_lt q).2
  refine(hb.block b (Nat.lt_of_lt_of_le hl hs) (fun e=>(h.known m kb k hm he).notRcv h.blk (by rw[<- e];exact q))).trans (hk b hl (fun e=>?_));obtain⟨c,hcc⟩:=own_block h.own e;exact(h.known m kb k hm he).notTy hcc q
 ·rcases List.mem_append.1 hx with q|q
  ·exact h.apartU x q m kb k hm he
  ·rw[List.mem_singleton.1 q]
   exact ha m kb k hm he
theorem Tryz.info_objZ:(Tryz.prog.info? 136).map (fun i=>(i.zero,i.size,i.bytes))=some (some (.agg #[.int .i64 0,.slice none 0 0]),2,32):=by kernel_rfl
theorem Tryz.objZ_parts:∃ i,Tryz.prog.info? 136=some i/\i.zero=some (.agg #[.int .i64 0,.slice none 0 0])/\i.size=2/\i.bytes=32:=by
 obtain⟨i,hi,h⟩:=Option.map_eq_some_iff.1 Tryz.info_objZ;simp only[Prod.mk.injEq]at h;exact⟨i,hi,h.1,h.2.1,h.2.2⟩
def Rcv.done(r:Rcv)(u:Un)(v:Value):Rcv:=(r.took u v).strike u.n
theorem take_any{B rb:Nat}{r:Rcv}{u:Un}{w:World}(h:RcAt w B rb r)(ok:r.Ok)(hn:u.n<16)(hun:r.un.length<16)
 (hg:B<=u.g/\(∃ cs,w.heap[u.g]?=some (.cells cs 5 (0,0)))/\Bs w u.g 0 u.l) (ha:∀ m kb k,m<16->r.kf m=some (kb,k)->¬ k.foot kb u.g):
 Calls Tryz.prog 48 #[.pointer (some ⟨rb,0,none⟩),.int .i64 (u.n:Int),.slice (some ⟨u.g,0,none⟩) u.l.length u.l.length] w fun e w'=>
  e=.returned (.tuple #[])/\(∃ v,RcAt w' B rb (r.done u v)/\∀ b,v.ownBlock=some b->r.uv.ownBlock=some b∨w.heap.size<=b)/\But (fun b=>b=rb∨b=r.mb∨r.uv.ownBlock=some b) w w':=by
 obtain⟨iO,hiO,hiO0,hiO1,hiO2⟩:=Tryz.objZ_parts;have c21:=h.last ok.tk;obtain⟨xa,xc,hxv,_⟩:=own_form2 h.own;rw[hxv]at c21;have hown:w.ownsRow B 136 2 (.slice xa r.un.length xc) r.un.length (flat2 (unVals r.un)):=hxv ▸ h.own;have hB:B<=w.heap.size:=Nat.le_trans h.low.1 (Nat.le_of_lt (lt_of_block h.blk));have HMX:Hid (r.un.length+1<=maxLen):=by show _<=_;unfold maxLen;omega
 have HNW:Hid (∀ x ∈ [Value.int .i64 (u.n:Int),.slice (some ⟨u.g,0,none⟩) u.l.length u.l.length],x.oneCell'=true):=fun x hu=>by simp at hu;rcases hu with rfl|rfl<;>rfl
 have HH:Hid (RcAt w B rb r):=h;have HG:Hid _:=hg;have HA:Hid _:=ha;clear h hg ha;go_enter Tryz.func48,Tryz.ntmps48;go_wp2_with (at_builtin;refine wpList_append_lies _ rfl _ _ _ rfl B 136 iO (.agg #[.int .i64 0,.slice none 0 0]) 2 32 Tryz.underlying65 hiO hiO0 hiO1 hiO2 rfl (by omega) (.slice xa r.un.length xc) r.un.length (flat2 (unVals r.un)) rfl (hown.alloc _) ⟨w.heap.size,0,none⟩ 1 1 [.int .i64 (u.n:Int),.slice (some ⟨u.g,0,none⟩) u.l.length u.l.length] rfl rfl (cell_two_atZ w _ _ _ _ rfl) HNW.out (by omega) HMX.out (by omega) (by simp;omega) (w.heap.size+1) (by simp) ?_);intro g6 cap6 w6 hown6 hgr6 hlie6 hlt6;have e6:flat2 (unVals (r.un++[u]))=flat2 (unVals r.un)++[.int .i64 (u.n:Int),.slice (some ⟨u.g,0,none⟩) u.l.length u.l.length]:=by simp[unVals,flat2_append];rfl
 rw[<- e6]at hown6;have hs6:w.heap.size<=w6.heap.size:=by have:=hgr6.size;simp at this;omega
 have hk6:∀ b,b<w.heap.size->¬ r.uv.ownBlock=some b->w6.heap[b]?=w.heap[b]?:=fun b hb hne=>(grown_block hgr6 (by simp;omega) (by rw[<- hxv];exact hne)).trans (Below.heap_alloc w _ b hb)
 have R6:=HH.out.took ok.tk hn hs6 hk6 hown6 HG.out HA.out;obtain⟨W9,HDEL,R9,B9⟩:=R6.strike hn;have hrl:=lt_of_block HH.out.blk;have hrb6:=(hk6 rb hrl (fun q=>own_ne HH.out.own q HH.out.blk (by decide) rfl)).trans HH.out.blk;have d21:w6.cell? ⟨rb,21,none⟩=some (.slice xa r.un.length xc):=by rw[cell_of_row _ rb 21 _ _ _ hrb6,<- cell_of_row w rb 21 _ _ _ HH.out.blk];exact c21
 have f21:w6.frozen? ⟨rb,21,none⟩=false:=frozen_of_row w6 rb 21 _ _ hrb6;have h7:=heap_setCell_same w6 rb 21 _ _ (.slice (some ⟨g6,0,none⟩) (r.un.length+1) cap6) hrb6
 have d5:(w6.setCell ⟨rb,21,none⟩ (.slice (some ⟨g6,0,none⟩) (r.un.length+1) cap6)).cell? ⟨rb,5+u.n,none⟩=some (.bool (r.tk.getD u.n false)):=by
  rw[cell_of_row _ rb (5+u.n) _ _ _ h7,List.setIfInBounds_toArray,List.getElem?_toArray,List.getElem?_set_ne (by omega),<- HH.out.cell];exact HH.out.taken (by rw[ok.tk];exact hn)
 have f5:(w6.setCell ⟨rb,21,none⟩ (.slice (some ⟨g6,0,none⟩) (r.un.length+1) cap6)).frozen? ⟨rb,5+u.n,none⟩=false:=frozen_of_row _ rb (5+u.n) _ _ h7;have d4:=R6.head.2.2.2.2
 have HFIN:Hid (∃ v,RcAt W9 B rb (r.done u v)/\∀ b,v.ownBlock=some b->r.uv.ownBlock=some b∨w.heap.size<=b):=⟨_,R9,fun b hb=>by
  simp only[Value.ownBlock,Option.some.injEq]at hb;subst hb;rcases hlie6 with q|q
  ·exact .inl (by rw[hxv];exact q)
  ·exact .inr (by omega)⟩
 have HB9:Hid (But (fun b=>b=rb∨b=r.mb∨r.uv.ownBlock=some b) w W9):=by
  have bA:But (fun b=>b=rb∨b=r.mb∨r.uv.ownBlock=some b) w w6:=⟨hgr6.os,hgr6.tape,hgr6.output,hs6,fun b hb hne=>hk6 b hb (fun q=>hne (.inr (.inr q)))⟩;have b8:=But.setCell (But.setCell bA (p:=⟨rb,21,none⟩) (.inl (.inl rfl)) (.slice (some ⟨g6,0,none⟩) (r.un.length+1) cap6)) (p:=⟨rb,5+u.n,none⟩) (.inl (.inl rfl)) (.bool true);exact b8.trans ⟨B9.os,B9.tape,B9.output,B9.size,fun b hb hne=>B9.block b hb (fun q=>hne (.inr (.inl q)))⟩
 clear c21 hown6 hgr6 hlie6 hlt6 R6 R9 B9 hrb6 h7 hk6 e6 hown;go_upto_region 1 with fail;generalize w6.setCell ⟨rb,21,none⟩ (.slice (some ⟨g6,0,none⟩) (r.un.length+1) cap6)=w7 at *;go_upto_region 2 with fail;generalize w7.setCell ⟨rb,5+u.n,none⟩ (.bool true)=w8 at *;go_wp2_with fail
 go_end0
 exact⟨rfl,HFIN.out,HB9.out⟩
theorem MapIs.same{D:DataW Unit}{kf:Nat->Option (Nat×Kn)}(h:MapIs D kf){m kb:Nat}{k:Kn}(k':Kn)(hm:m<16)(he:kf m=some (kb,k)):MapIs D (updF kf m (some (kb,k'))):=by
 refine⟨fun i hi=>?_,fun i hi=>?_,?_⟩
 ·by_cases e:i=m
  ·subst e
   rw[h.has i hi,he,updF_same];rfl
  ·rw[updF_other _ _ e,h.has i hi]
 ·by_cases e:i=m
  ·subst e
   rw[h.at_ i hi,he,updF_same];rfl
  ·rw[updF_other _ _ e,h.at_ i hi]
 ·rw[h.size]
  have:=cnt_upd kf m (some (kb,k')) 16 hm;rw[he]at this;simp at this;omega
def Rcv.know(r:Rcv)(m kb:Nat)(k:Kn):Rcv:={r with kf:=updF r.kf m (some (kb,k))}
theorem Rcv.know_ok{r:Rcv}(ok:r.Ok){m kb:Nat}{k k':Kn}(hm:m<16)(he:r.kf m=some (kb,k))(hk:k'.Ok/\k'.K=r.K/\k'.N=r.N/\k'.S=r.S):(r.know m kb k').Ok:=by
 refine⟨ok.cfg,ok.tk,ok.un,fun i b q hi e=>?_,?_⟩
 ·unfold Rcv.know at e
  by_cases hi':i=m
  ·subst hi'
   simp only[updF_same,Option.some.injEq,Prod.mk.injEq]at e;obtain⟨rfl,rfl⟩:=e;exact hk
  ·simp only[updF_other _ _ hi']at e
   exact ok.known i b q hi e
 ·show cntF (updF r.kf m (some (kb,k'))) 16<=4
  have:=cnt_upd r.kf m (some (kb,k')) 16 hm;rw[he]at this;simp at this;have:=ok.few;omega
theorem RcAt.know{w w':World}{B rb m kb:Nat}{r:Rcv}{k k':Kn}(h:RcAt w B rb r)(hm:m<16)(he:r.kf m=some (kb,k))(hK:KAt w' B kb k')(hb:But (k.foot kb) w w')(hf:∀ b,k'.foot kb b->k.foot kb b∨¬ r.foot rb b):RcAt w' B rb (r.know m kb k'):=by
 have hk:=h.known m kb k hm he
 have hcl:∀ b,k.foot kb b->∀ o,w.heap[b]?=some o->(∀ cs t fr,o≠.cells cs t fr)->False:=fun b q o ho hne=>by
  obtain⟨cs,t,hc⟩:=hk.isCells q;rw[hc]at ho;exact hne _ _ _ (Option.some.inj ho).symm
 have hnot:∀ i b q,i<16->i≠m->r.kf i=some (b,q)->∀ x,q.foot b x->¬ k'.foot kb x:=fun i b q hi hne e x hx hx'=>by
  rcases hf x hx' with hx2|hx2
  ·exact h.apart i m b q kb k hi hm hne e he x hx hx2
  ·exact hx2 (.inr (.inr (.inr (.inr (.inr ⟨i,b,q,hi,e,hx⟩)))))
 refine⟨h.low,(hb.block rb (lt_of_block h.blk) (hk.notRcv h.blk)).trans h.blk,(hb.block r.d (Array.getElem?_eq_some_iff.1 h.chan).1 (fun q=>hcl _ q _ h.chan (fun _ _ _ e=>by cases e))).trans h.chan,?_,own_of_block h.own (fun g hg=>hb.block g (h.own.lt g hg).2 (fun q=>?_)),fun u hu=>?_,fun i b q hi e=>?_,fun i i' b q b' q' hi hi' hne e e'=>?_,fun u hu i b q hi e=>?_⟩
 ·obtain⟨n,D,⟨es,clock,hmb,hr⟩,hM⟩:=h.map
  exact⟨n,D,⟨es,clock,(hb.block r.mb (Array.getElem?_eq_some_iff.1 hmb).1 (fun q=>hcl _ q _ hmb (fun _ _ _ e=>by cases e))).trans hmb,hr⟩,hM.same k' hm he⟩
 ·obtain⟨c,hc⟩:=own_block h.own hg
  exact hk.notTy hc q
 ·obtain⟨h1,⟨cs,h2⟩,h3⟩:=h.objs u hu
  have hx:=hb.block u.g (lt_of_block h2) (h.apartU u hu m kb k hm he);refine⟨h1,⟨cs,hx.trans h2⟩,fun i hi=>?_⟩;have hc:w'.cell? ⟨u.g,0+i,none⟩=w.cell? ⟨u.g,0+i,none⟩:=World.cell?_of_block (w:=w) (a:=⟨u.g,0+i,none⟩) hx;rw[hc];exact h3 i hi
 ·change updF r.kf m (some (kb,k')) i=some (b,q)at e
  by_cases hi':i=m
  ·subst hi'
   rw[updF_same]at e;cases e;exact hK
  ·rw[updF_other _ _ hi']at e
   have hq:=h.known i b q hi e;exact hq.kept (fun x hx=>hb.block x (hq.foot_lt hx).2 (h.apart i m b q kb k hi hm hi' e he x hx))
 ·change updF r.kf m (some (kb,k')) i=some (b,q)at e
  change updF r.kf m (some (kb,k')) i'=some (b',q')at e'
  by_cases h1:i=m
  ·subst h1
   rw[updF_same]at e;cases e;rw[updF_other _ _ (Ne.symm hne)]at e';exact fun x hx hx'=>hnot i' b' q' hi' (Ne.symm hne) e' x hx' hx
  ·rw[updF_other _ _ h1]at e
   by_cases h2:i'=m
   ·subst h2
    rw[updF_same]at e';cases e';exact hnot i b q hi hne e
   ·rw[updF_other _ _ h2]at e'
    exact h.apart i i' b q b' q' hi hi' hne e e'
 ·change updF r.kf m (some (kb,k')) i=some (b,q)at e
  by_cases h1:i=m
  ·subst h1
   rw[updF_same]at e;cases e;intro hx;rcases hf _ hx with q|q
   ·exact h.apartU u hu i kb k hi he q
   ·exact q (.inr (.inr (.inr (.inr (.inl ⟨u,hu,rfl⟩)))))
  ·rw[updF_other _ _ h1]at e
   exact h.apartU u hu i b q hi e
theorem Kn.lks_whole{k:Kn}:∀ n,(k.lks n).length=0↔∀ i,i<n->k.lk i=0
 | 0=>⟨fun _ i hi=>by omega,fun _=>rfl⟩
 | n+1=>by
  unfold Kn.lks;by_cases h:0<k.lk n
  ·rw[if_pos h]
   refine⟨fun q=>by simp at q,fun q=>?_⟩;have:=q n (by omega);omega
  ·rw[if_neg h,Kn.lks_whole n]
   refine⟨fun q i hi=>?_,fun q i hi=>q i (by omega)⟩;by_cases e:i=n
   ·subst e
    omega
   ·exact q i (by omega)
theorem Kn.whole_iff{k:Kn}(ok:k.Ok):(k.lks k.ts.length).length=0↔k.whole:=by
 rw[Kn.lks_whole];refine⟨fun h i hi=>?_,fun h i hi=>?_⟩
 ·have:=h i hi
  have:=ok.few i hi;unfold Kn.lk at *;omega
 ·have:=h i hi
  unfold Kn.lk;omega
theorem rcvHear_shut{A:Nat->Addr}{B0 B rb n c:Nat}{a:Option Addr}{r:Rcv}{w:World}(h:RcAt w B rb r)(hE:Errs A B0 w)(hs:r.shut=true):
 Calls Tryz.prog 21 #[.pointer (some ⟨rb,0,none⟩),.slice a n c] w fun e w'=>e=.returned (E A 8)/\w'=w:=by
 have HC:=h.isClosed;have g7:w.cell? ⟨0,0,none⟩=some (.iface 269 (.pointer (some (A 7)))):=hE.cell 7 (by omega);rw[hs]at HC;go_enter Tryz.func21,Tryz.ntmps21;go_wp2_with fail;refine HC.mono ?_;rintro e w1 ⟨rfl,rfl⟩;go_wp2_with fail;go_ret;exact⟨rfl,rfl⟩
theorem rcvHear_bad{A:Nat->Addr}{B0 B rb b o n c ec ek:Nat}{a:Option Addr}{l:List Gf.F}{r:Rcv}{w:World}(h:RcAt w B rb r)(ok:r.Ok)(hE:Errs A B0 w)(hET:ErrType w)(hB9:8<w.heap.size)(hl:l.length=n)(hn:n<=c)(hc:c<=9223372036854775807)(hn2:n<=140737488355328)(ha:0<n->a=some ⟨b,o,none⟩)(hB:Bs w b o l)(hb:0<n->b<w.heap.size)
 (hs:r.shut=false) (hpe:parseE r.K r.N r.S l=some (ec,ek)):
 Calls Tryz.prog 21 #[.pointer (some ⟨rb,0,none⟩),.slice a n c] w fun e w'=>∃ v,e=.returned v/\Wr w w' v (ek:Int) (E A ec)/\Below w.heap.size w w':=by
 have HC:=h.isClosed;rw[hs]at HC;obtain⟨c0,c1,c2,_,_⟩:=h.head;have hP:=parse_any A B0 a b o n c r.K r.N r.S l w hE hET hB9 ok.cfg hl hn hc hn2 ha hB hb;go_enter Tryz.func21,Tryz.ntmps21;go_wp2_with fail;refine HC.mono ?_;rintro e w1 ⟨rfl,rfl⟩;go_wp2_with fail;refine hP.mono ?_;intro e w2 hG;obtain⟨h1,hb1⟩:=hG;rw[hpe]at h1;obtain⟨v,rfl,pb,rfl,hpb,hblk⟩:=h1;clear hP HC c0 c1 c2;go_wp2_with fail;go_ret;exact⟨_,rfl,⟨pb,rfl,hpb,(Below.heap_alloc w2 _ pb (lt_of_block hblk)).trans hblk⟩,hb1.alloc hb1.size _⟩
theorem rcvHear_skip{A:Nat->Addr}{B0 B rb b o n c:Nat}{a:Option Addr}{l:List Gf.F}{r:Rcv}{w:World}(h:RcAt w B rb r)(ok:r.Ok)(hE:Errs A B0 w)(hET:ErrType w)(hB9:8<w.heap.size)(hl:l.length=n)(hn:n<=c)(hc:c<=9223372036854775807)(hn2:n<=140737488355328)(ha:0<n->a=some ⟨b,o,none⟩)(hB:Bs w b o l)(hb:0<n->b<w.heap.size)
 (hs:r.shut=false) (hpe:parseE r.K r.N r.S l=none) (hsk:¬ bt l 0=1∨r.tk.getD (bt l 1) false=true):
 Calls Tryz.prog 21 #[.pointer (some ⟨rb,0,none⟩),.slice a n c] w fun e w'=>e=.returned .nilIface/\Below w.heap.size w w':=by
 have HC:=h.isClosed;rw[hs]at HC;obtain⟨c0,c1,c2,_,_⟩:=h.head;obtain⟨hkd,hle,hob⟩:=parse_head hpe;have hP:=parse_any A B0 a b o n c r.K r.N r.S l w hE hET hB9 ok.cfg hl hn hc hn2 ha hB hb;go_enter Tryz.func21,Tryz.ntmps21;go_wp2_with fail;refine HC.mono ?_;rintro e w1 ⟨rfl,rfl⟩;go_wp2_with fail;refine hP.mono ?_;intro e w2 hG;obtain⟨x3,x4,M,c6,n5,c5,a5,a6,rfl,_,hb1⟩:=hG.packet hpe;clear hP HC c0 c1 c2 hG;go_upto_region 6 with fail;have hb2:=hb1.alloc hb1.size (.cells #[.int .i64 (bt l 0:Int),.int .i64 (bt l 1:Int),.int .i64 (lenOf l:Int),.int .i64 x3,.int .i64 x4,.slice a5 n5 c5,.slice a6 M c6] 60);have hP2:=heap_alloc_new w2 (.cells #[.int .i64 (bt l 0:Int),.int .i64 (bt l 1:Int),.int .i64 (lenOf l:Int),.int .i64 x3,.int .i64 x4,.slice a5 n5 c5,.slice a6 M c6] 60);generalize w2.alloc (.cells #[.int .i64 (bt l 0:Int),.int .i64 (bt l 1:Int),.int .i64 (lenOf l:Int),.int .i64 x3,.int .i64 x4,.slice a5 n5 c5,.slice a6 M c6] 60)=W at *;obtain⟨y0,y1,y2,_,_,_,_⟩:=pk7 hP2;have h2:=h.above hb2;have d5:=h2.taken (m:=bt l 1) (by rw[ok.tk];exact hob);have HB:Hid (Below w1.heap.size w1 W):=hb2;generalize bt l 0=kd at *;generalize bt l 1=ob at *;generalize lenOf l=ln at *;clear h h2 hE hET hB hb hb1 hb2 hP2 ha;by_cases hk:kd=1
 ·subst hk
  have ht:r.tk.getD ob false=true:=hsk.resolve_left (fun q=>q rfl);rw[ht]at d5
  go_quiet (fail)
  go_wp2_with fail;go_ret;exact⟨rfl,HB.out.trans ((below_drew rfl).mono HB.out.size)⟩
 ·have hk1:¬(kd:Int)=1:=by omega
  go_quiet (fail)
  go_wp2_with fail;go_ret;exact⟨rfl,HB.out.trans ((below_drew rfl).mono HB.out.size)⟩
theorem parse_dataE{K N S:Nat}{l:List Gf.F}(h:parseE K N S l=none)(hk:bt l 0=1):bt (l.drop 4) 0<partsN (symN S (lenOf l)) K/\((l.drop 4).drop 2).length=S:=by
 unfold parseE at h
 cases hh:headE l with
 | some e=>rw[hh]at h;cases h
 | none=>
  rw[hh]at h;simp only[if_pos hk,Option.map_eq_none_iff]at h;generalize l.drop 4=m at *;unfold dataB at h;split at h
  ·cases h
  split at h
  ·cases h
  rename_i h2;split at h
  ·cases h
  split at h
  ·cases h
  split at h
  ·cases h
  split at h
  ·cases h
  refine⟨?_,by rw[List.length_drop];omega⟩;simp[winB]at h2;omega
theorem ParseGives.data{A:Nat->Addr}{K N S:Nat}{l:List Gf.F}{w w':World}{e:Ending}(h:ParseGives A K N S l w e w')(hp:parseE K N S l=none)(hk:bt l 0=1)(hS:1<=S):
 ∃ q:Row,e=.returned (.tuple #[.agg #[.int .i64 1,.int .i64 (bt l 1:Int),.int .i64 (lenOf l:Int),.int .i64 (bt (l.drop 4) 0:Int),.int .i64 (bt (l.drop 4) 1:Int),.slice (some ⟨q.b,q.o,none⟩) q.l.length q.c,.slice none 0 0],.nilIface])/\q.l=(l.drop 4).drop 2/\q.o=0/\w.heap.size<=q.b/\w'.ownsRow w.heap.size 5 1 q.val q.l.length (encL q.l)/\Below w.heap.size w w':=by
 obtain⟨h1,hb⟩:=h;rw[hp]at h1;simp only[if_pos hk]at h1;obtain⟨a,c1,rfl,hown⟩:=h1;obtain⟨_,hl⟩:=parse_dataE hp hk;obtain⟨g,cap,hv,_⟩:=hown.form (by omega);rw[hv]at hown ⊢;refine⟨⟨g,0,cap,(l.drop 4).drop 2⟩,?_,rfl,rfl,(hown.lt g (by simp[Value.ownBlock])).1,?_,hb⟩
 ·simp only[hl,hk]
  rfl
 ·simp only[Row.val,hl]
  exact hown
def Begun(r:Rcv)(m len kb:Nat)(k:Kn)(r1:Rcv):Prop:=
 (r.kf m=some (kb,k)/\k.len=len/\r1=r)∨(r.kf m=none/\cntF r.kf 16<4/\(∃ bg,k=kn0 r.K r.N r.S len bg)/\r1=r.put m kb k)
theorem put_foot{r:Rcv}{rb m kb bg K N S len H b:Nat}(hlo:H<=kb/\H<=bg)(h:(r.put m kb (kn0 K N S len bg)).foot rb b):r.foot rb b∨H<=b:=by
 rcases h with h|h|h|h|h|⟨i,b',q,hi,he,h⟩
 ·exact .inl (.inl h)
 ·exact .inl (.inr (.inl h))
 ·exact .inl (.inr (.inr (.inl h)))
 ·exact .inl (.inr (.inr (.inr (.inl h))))
 ·exact .inl (.inr (.inr (.inr (.inr (.inl h)))))
 ·change updF r.kf m _ i=some (b',q)at he
  by_cases e:i=m
  ·subst e
   rw[updF_same]at he;cases he;rcases h with h|h|⟨j,hj,h⟩
   ·exact .inr (by rw[h];exact hlo.1)
   ·exact .inr (by rw[h];exact hlo.2)
   ·unfold kn0 at h
    rw[gpt0]at h;simp[pt0,Value.ownBlock]at h
  ·rw[updF_other _ _ e]at he
   exact .inl (.inr (.inr (.inr (.inr (.inr ⟨i,b',q,hi,he,h⟩)))))
theorem ObjGives.three{A:Nat->Addr}{r:Rcv}{m len B rb:Nat}{w w':World}{e:Ending}(h:ObjGives A r m len B rb w e w')(hR:RcAt w B rb r)(ok:r.Ok)(hm:m<16)(hlen:len<=255):
 (∃ kb k v,r.kf m=some (kb,k)/\k.len≠len/\e=.returned (.tuple #[.pointer none,v])/\Wr w w' v 2 (E A 6)/\Below w.heap.size w w')∨
 (r.kf m=none/\cntF r.kf 16=4/\e=.returned (.tuple #[.pointer none,E A 3])/\Below w.heap.size w w')∨
 (∃ kb k r1,e=.returned (.tuple #[.pointer (some ⟨kb,0,none⟩),.nilIface])/\Begun r m len kb k r1/\RcAt w' B rb r1/\r1.Ok/\r1.kf m=some (kb,k)/\But (fun b=>b=r.mb) w w'/\∀ b,r1.foot rb b->r.foot rb b∨w.heap.size<=b):=by
 rcases h with⟨kb,k,he,hl,rfl,hb⟩|h|h|⟨hn,hc,kb,bg,rfl,hlo,hR',hb⟩
 ·exact .inr (.inr ⟨kb,k,r,rfl,.inl ⟨he,hl,rfl⟩,hR.above hb,ok,he,Below.but hb _ (fun i h1 h2=>absurd h1 h2),fun b q=>.inl q⟩)
 ·exact .inl h
 ·exact .inr (.inl h)
 ·exact .inr (.inr ⟨kb,_,_,rfl,.inr ⟨hn,hc,⟨bg,rfl⟩,rfl⟩,hR',Rcv.put_ok ok hm hn hc ⟨kn0_ok ok.cfg hlen,rfl,rfl,rfl⟩,updF_same _ _ _,hb,fun b q=>put_foot hlo q⟩)
def Kept(k:Kn)(i:Nat)(x:Gf.F)(d:List Gf.F)(k':Kn):Prop:=(¬ k.use i x/\k'=k)∨(k.use i x/\∃(q:Row) (pv sv:Value),q.l=d/\q.o=0/\k'=k.add i x q pv sv)
theorem Rcv.know_same{r:Rcv}{m kb:Nat}{k:Kn}(h:r.kf m=some (kb,k)):r.know m kb k=r:=by
 unfold Rcv.know
 have e:updF r.kf m (some (kb,k))=r.kf:=by
  funext i;by_cases q:i=m
  ·subst q
   rw[updF_same,h]
  ·rw[updF_other _ _ q]
 rw[e]
theorem RcAt.lowB{w:World}{B rb:Nat}{r:Rcv}(h:RcAt w B rb r):B<=w.heap.size:=Nat.le_trans h.low.1 (Nat.le_of_lt (lt_of_block h.blk))
theorem AddGives.kept{w w':World}{B rb ob kb bl:Nat}{k:Kn}{x:Gf.F}{q:Row}{d:List Gf.F}{r:Rcv}{e:Ending}(hA:AddGives k bl x q B kb w e w')(h:RcAt w B rb r)(ok:r.Ok)(hob:ob<16)(he:r.kf ob=some (kb,k))(hi:bl<k.ts.length)
 (hq:q.l=d/\q.o=0) (hd:d.length=r.S) (hqn:¬ r.foot rb q.b):
 e=.returned (.tuple #[])/\∃ k',Kept k bl x d k'/\RcAt w' B rb (r.know ob kb k')/\(r.know ob kb k').Ok/\But (k.foot kb) w w'/\∀ b,k'.foot kb b->k.foot kb b∨w.heap.size<=b∨b=q.b:=by
 obtain⟨rfl,hA⟩:=hA;obtain⟨o1,o2,o3,o4⟩:=ok.known ob kb k hob he;refine⟨rfl,?_⟩;rcases hA with⟨hu,hb⟩|⟨hu,pv,sv,hK,hb,hf⟩
 ·refine⟨k,.inl ⟨hu,rfl⟩,?_,?_,Below.but hb _ (fun i h1 h2=>absurd h1 h2),fun _ z=>.inl z⟩
  ·rw[Rcv.know_same he]
   exact h.above hb
  ·rw[Rcv.know_same he]
   exact ok
 ·refine⟨_,.inr ⟨hu,q,pv,sv,hq.1,hq.2,rfl⟩,h.know hob he hK hb (fun b hx=>?_),Rcv.know_ok ok hob he ⟨Kn.add_ok o1 hi hu.1 ⟨by rw[hq.1,hd,o4],hq.2⟩,o2,o3,o4⟩,hb,hf⟩
  rcases hf b hx with y|y|y
  ·exact .inl y
  ·exact .inr (fun z=>by have:=(h.foot_lt z).2;omega)
  ·exact .inr (by rw[y];exact hqn)
theorem Begun.facts{r r1:Rcv}{m len kb:Nat}{k:Kn}(h:Begun r m len kb k r1):k.len=len/\r1.K=r.K/\r1.N=r.N/\r1.S=r.S/\r1.un=r.un/\r1.mb=r.mb/\r1.uv=r.uv:=by
 rcases h with⟨_,hl,rfl⟩|⟨_,_,⟨bg,rfl⟩,rfl⟩
 ·exact⟨hl,rfl,rfl,rfl,rfl,rfl,rfl⟩
 ·exact⟨rfl,rfl,rfl,rfl,rfl,rfl,rfl⟩
theorem cat_take{k:Kn}(ok:k.Ok)(_hw:k.whole):((k.cat k.ts.length).take k.len).length=k.len:=by
 obtain⟨k1,k8,kn,n16,s1,s8⟩:=ok.cfg;have hTr:=symN_range (S:=k.S) (len:=k.len) s1;have hTe:k.T=symN k.S k.len:=rfl;have hbl:=ok.blocks;obtain⟨Q,hQ⟩:∃ x,x=k.ts.length:=⟨_,rfl⟩;rw[<- hQ]at hbl ⊢;have h1:=parts_cover k.T k1;have h2:=parts_cover k.len s1;have h3:partsN k.len k.S<=k.T:=by rw[hTe];unfold symN;omega
 have h4:Q*k.K<=k.T+k.K:=by
  by_cases e:Q=0
  ·subst e;omega
  ·obtain⟨j,rfl⟩:∃ j,Q=j+1:=⟨Q - 1,by omega⟩
   have:=partsN_mul k1 (show j<partsN k.T k.K by omega);rw[Nat.succ_mul];omega
 have h5:k.T<=Q*k.K:=by rw[hbl];exact h1
 rw[List.length_take,k.cat_len Q h4,Nat.min_eq_right h5];have h6:partsN k.len k.S*k.S<=k.T*k.S:=Nat.mul_le_mul_right _ h3;omega
def DataHeard(A:Nat->Addr)(r:Rcv)(ob ln bl:Nat)(x:Gf.F)(d:List Gf.F)(B rb:Nat)(w:World)(e:Ending)(w':World):Prop:=
 (∃ kb k v,r.kf ob=some (kb,k)/\k.len≠ln/\e=.returned v/\Wr w w' v 2 (E A 6)/\Below w.heap.size w w')∨
 (r.kf ob=none/\cntF r.kf 16=4/\e=.returned (E A 3)/\Below w.heap.size w w')∨
 (e=.returned .nilIface/\But (r.foot rb) w w'/\∃ kb k r1 k',Begun r ob ln kb k r1/\Kept k bl x d k'/\
  ((¬ k'.whole/\RcAt w' B rb (r1.know ob kb k')/\∀ b,(r1.know ob kb k').foot rb b->r.foot rb b∨w.heap.size<=b)∨
   (k'.whole/\∃ g v,w.heap.size<=g/\RcAt w' B rb ((r1.know ob kb k').done ⟨ob,g,(k'.cat k'.ts.length).take k'.len⟩ v)/\∀ b,((r1.know ob kb k').done ⟨ob,g,(k'.cat k'.ts.length).take k'.len⟩ v).foot rb b->r.foot rb b∨w.heap.size<=b)))
theorem know_foot{r:Rcv}{rb m kb b:Nat}{k k':Kn}{X:Nat->Prop}(hm:m<16)(he:r.kf m=some (kb,k))(hf:∀ b,k'.foot kb b->k.foot kb b∨X b)(h:(r.know m kb k').foot rb b):r.foot rb b∨X b:=by
 rcases h with h|h|h|h|h|⟨i,b',q,hi,e,h⟩
 ·exact .inl (.inl h)
 ·exact .inl (.inr (.inl h))
 ·exact .inl (.inr (.inr (.inl h)))
 ·exact .inl (.inr (.inr (.inr (.inl h))))
 ·exact .inl (.inr (.inr (.inr (.inr (.inl h)))))
 ·change updF r.kf m (some (kb,k')) i=some (b',q)at e
  by_cases hi':i=m
  ·subst hi'
   rw[updF_same]at e;cases e;exact(hf b h).imp (fun z=>.inr (.inr (.inr (.inr (.inr ⟨i,kb,k,hm,he,z⟩))))) id
  ·rw[updF_other _ _ hi']at e
   exact .inl (.inr (.inr (.inr (.inr (.inr ⟨i,b',q,hi,e,h⟩)))))
theorem done_foot{r:Rcv}{rb b:Nat}{u:Un}{v:Value}(h:(r.done u v).foot rb b):r.foot rb b∨v.ownBlock=some b∨b=u.g:=by
 rcases h with h|h|h|h|⟨x,hx,h⟩|⟨i,b',q,hi,e,h⟩
 ·exact .inl (.inl h)
 ·exact .inl (.inr (.inl h))
 ·exact .inl (.inr (.inr (.inl h)))
 ·exact .inr (.inl h)
 ·change x ∈ r.un++[u]at hx
  rcases List.mem_append.1 hx with z|z
  ·exact .inl (.inr (.inr (.inr (.inr (.inl ⟨x,z,h⟩)))))
  ·rw[List.mem_singleton.1 z]at h
   exact .inr (.inr h)
 ·change updF r.kf u.n none i=some (b',q)at e
  by_cases hi':i=u.n
  ·subst hi'
   rw[updF_same]at e;cases e
  ·rw[updF_other _ _ hi']at e
   exact .inl (.inr (.inr (.inr (.inr (.inr ⟨i,b',q,hi,e,h⟩)))))
theorem Rcv.done_ok{r:Rcv}(ok:r.Ok){u:Un}{v:Value}(hu:r.un.length<16)(hn:u.n<16):(r.done u v).Ok:=by
 refine⟨ok.cfg,?_,?_,fun m kb k hm h=>?_,?_⟩
 ·show(r.tk.set u.n true).length=16
  rw[List.length_set];exact ok.tk
 ·show(r.un++[u]).length<=16
  simp;omega
 ·change updF r.kf u.n none m=some (kb,k)at h
  by_cases e:m=u.n
  ·subst e
   rw[updF_same]at h;cases h
  ·rw[updF_other _ _ e]at h
   exact ok.known m kb k hm h
 ·show cntF (updF r.kf u.n none) 16<=4
  have h1:=cnt_upd r.kf u.n none 16 hn;have h2:=ok.few;simp at h1;omega
theorem rcvHear_core{A:Nat->Addr}{B0 B rb ob ln bl n c:Nat}{a:Option Addr}{x:Gf.F}{d:List Gf.F}{r:Rcv}{w:World}(h:RcAt w B rb r)(ok:r.Ok)(hE:Errs A B0 w)
 (hs:r.shut=false) (hob:ob<16) (hle:ln<=255) (hblk:bl<partsN (symN r.S ln) r.K) (hd:d.length=r.S) (htk:r.tk.getD ob false=false) (hun:r.un.length<16)
 (hP:Calls Tryz.prog 40 #[.agg #[.int .i64 (r.K:Int),.int .i64 (r.N:Int),.int .i64 (r.S:Int)],.slice a n c] w fun e w'=>∃ q:Row,e=.returned (.tuple #[.agg #[.int .i64 1,.int .i64 ob,.int .i64 ln,.int .i64 bl,.int .i64 (x.toNat:Int),.slice (some ⟨q.b,q.o,none⟩) q.l.length q.c,.slice none 0 0],.nilIface])/\
  Hid (q.l=d/\q.o=0/\w.heap.size<=q.b/\w'.ownsRow w.heap.size 5 1 q.val q.l.length (encL q.l))/\Below w.heap.size w w'):
 Calls Tryz.prog 21 #[.pointer (some ⟨rb,0,none⟩),.slice a n c] w (DataHeard A r ob ln bl x d B rb w):=by
 have HC:=h.isClosed;rw[hs]at HC;obtain⟨c0,c1,c2,_,_⟩:=h.head;go_enter Tryz.func21,Tryz.ntmps21;go_wp2_with fail;refine HC.mono ?_;rintro e w1 ⟨rfl,rfl⟩;go_wp2_with fail;refine hP.mono ?_;rintro e w2 ⟨q,rfl,HQ,hb1⟩;clear hP HC c0 c1 c2;go_upto_region 6 with fail;have hb2:=hb1.alloc hb1.size (.cells #[.int .i64 1,.int .i64 ob,.int .i64 ln,.int .i64 bl,.int .i64 (x.toNat:Int),.slice (some ⟨q.b,q.o,none⟩) q.l.length q.c,.slice none 0 0] 60);have hP2:=heap_alloc_new w2 (.cells #[.int .i64 1,.int .i64 ob,.int .i64 ln,.int .i64 bl,.int .i64 (x.toNat:Int),.slice (some ⟨q.b,q.o,none⟩) q.l.length q.c,.slice none 0 0] 60);have hbA:=(Below.refl w2.heap.size w2).alloc (Nat.le_refl _) (.cells #[.int .i64 1,.int .i64 ob,.int .i64 ln,.int .i64 bl,.int .i64 (x.toNat:Int),.slice (some ⟨q.b,q.o,none⟩) q.l.length q.c,.slice none 0 0] 60);have hpl:w1.heap.size<=w2.heap.size:=hb1.size;generalize w2.alloc (.cells #[.int .i64 1,.int .i64 ob,.int .i64 ln,.int .i64 bl,.int .i64 (x.toNat:Int),.slice (some ⟨q.b,q.o,none⟩) q.l.length q.c,.slice none 0 0] 60)=W at *;obtain⟨pb,hpb⟩:∃ x,x=w2.heap.size:=⟨_,rfl⟩;rw[<- hpb]at hP2 hpl ⊢;have HPB:Hid (w1.heap.size<=pb):=hpl;clear hpb hpl;obtain⟨y0,y1,y2,y3,y4,y5,y6⟩:=pk7 hP2;have h2:=h.above hb2;have d5:=h2.taken (m:=ob) (by rw[ok.tk];exact hob);rw[htk]at d5
 go_quiet (fail)
 go_upto_region 8 with fail;obtain⟨W3,hW3⟩:∃ x,x=W.drewN nq:=⟨_,rfl⟩;rw[<- hW3];have hb3:=hb2.trans ((below_drew hW3).mono hb2.size);have h3:=h.above hb3;have hP3:=((below_drew hW3).block pb (lt_of_block hP2)).trans hP2;have hE3:=hE.shrink W3 hb3;have HQ3:Hid (W3.ownsRow w1.heap.size 5 1 q.val q.l.length (encL q.l)):=own_of_block HQ.out.2.2.2 (fun g hg=>((below_drew hW3).block g (Nat.lt_of_lt_of_le (HQ.out.2.2.2.lt g hg).2 hbA.size)).trans (hbA.block g (HQ.out.2.2.2.lt g hg).2));clear y0 y1 y2 y3 y4 y5 y6 d5 h2 hW3;obtain⟨y0,y1,y2,y3,y4,y5,y6⟩:=pk7 hP3;have HO:=objectOf_any (kd:=1) (x3:=bl) (x4:=x.toNat) (v5:=.slice (some ⟨q.b,q.o,none⟩) q.l.length q.c) (v6:=.slice none 0 0) h3 ok hE3 hob hle;rw[show((1:Nat):Int)=1 from rfl]at HO;go_wp2_with fail;refine HO.mono ?_;intro e w4 hO;have hb34:=hb3.size;rcases hO.three h3 ok hob hle with⟨kb,k,v,he,hne,rfl,⟨pe,rfl,hpe,hbe⟩,hb4⟩|⟨he,hc4,rfl,hb4⟩|⟨kb,k,r1,rfl,hbg,h4,ok4,he4,hb4,hf4⟩
 ·clear HO hO
  go_wp2_with fail;go_ret;exact .inl ⟨kb,k,_,he,hne,rfl,⟨pe,rfl,Nat.le_trans hb34 hpe,hbe⟩,hb3.trans (hb4.mono hb34)⟩
 ·clear HO hO
  have eE:E A 3=.iface 269 (.pointer (some (A 2))):=rfl;rw[eE];go_wp2_with fail;go_ret;exact .inr (.inl ⟨he,hc4,rfl,hb3.trans (hb4.mono hb34)⟩)
 ·clear HO hO y0 y1 y2 y3 y4 y5 y6
  obtain⟨e1,e2,e3,e4,e5,e6,e7⟩:=hbg.facts;obtain⟨o1,o2,o3,o4⟩:=ok4.known ob kb k hob he4;obtain⟨_,_,⟨es,ck,hmb,_⟩,_⟩:=h3.map;have nmb:∀ {z cs t fr},W3.heap[z]?=some (.cells cs t fr)->¬ z=r.mb:=fun e u=>by rw[u,hmb]at e;cases e
  have hq4:w4.ownsRow w1.heap.size 5 1 q.val q.l.length (encL q.l):=own_of_block HQ3.out (fun g hg=>by
   obtain⟨cs,hcs⟩:=own_block HQ3.out hg;exact hb4.block g (HQ3.out.lt g hg).2 (nmb hcs))
  have hP4:=(hb4.block pb (lt_of_block hP3) (nmb hP3)).trans hP3;have hqlt:=(HQ3.out.lt q.b (q.own.2 trivial)).2;have hplt:=lt_of_block hP3;have hlow:∀ {z},r1.foot rb z->z<w1.heap.size∨W3.heap.size<=z:=fun u=>(hf4 _ u).imp (fun v=>(h.foot_lt v).2) id
  have hqn:¬ r1.foot rb q.b:=fun u=>by have:=hlow u;have:=HQ.out.2.2.1;omega
  have hpn:¬ r1.foot rb pb:=fun u=>by have:=hlow u;have:=HPB.out;omega
  have hi:bl<k.ts.length:=by rw[o1.blocks];unfold Kn.T;rw[e1,o2,o4,e2,e4];exact hblk
  have HADD:Calls Tryz.prog 46 #[.pointer (some ⟨kb,0,none⟩),.int .i64 bl,.int .i64 (x.toNat:Int),.slice (some ⟨q.b,q.o,none⟩) q.l.length q.c] w4 (AddGives k bl x q B kb w4):=
   gadd_any (h4.known ob kb k hob he4) h4.lowB o1 hi ⟨Nat.le_trans h.lowB HQ.out.2.2.1,own_base2 hq4 h.lowB⟩ (fun j hj g hg u=>hqn (by rw[u];exact .inr (.inr (.inr (.inr (.inr ⟨ob,kb,k,hob,he4,.inr (.inr ⟨j,hj,.inl hg⟩)⟩))))))
  obtain⟨y0,y1,y2,y3,y4,y5,y6⟩:=pk7 hP4;go_wp2_with fail;refine HADD.mono ?_;intro e w5 hA;obtain⟨rfl,k',hkept,h5,ok5,hb5,hkf5⟩:=hA.kept h4 ok4 hob he4 hi ⟨HQ.out.1,HQ.out.2.1⟩ (by rw[hd,e4]) hqn;clear HADD hA y0 y1 y2 y3 y4 y5 y6;have he5:(r1.know ob kb k').kf ob=some (kb,k'):=updF_same _ _ _
  have HF5:Hid (∀ b,(r1.know ob kb k').foot rb b->r.foot rb b∨w1.heap.size<=b):=fun b hx=>by
   rcases know_foot (X:=fun b=>w1.heap.size<=b) hob he4 (fun z hz=>by
    rcases hkf5 z hz with u|u|u
    ·exact .inl u
    ·exact .inr (Nat.le_trans (Nat.le_trans hb34 hb4.size) u)
    ·exact .inr (by rw[u];exact HQ.out.2.2.1)) hx with u|u
   ·exact(hf4 b u).imp id (fun z=>Nat.le_trans hb34 z)
   ·exact .inr u
  have hP5:=(hb5.block pb (lt_of_block hP4) (fun u=>hpn (.inr (.inr (.inr (.inr (.inr ⟨ob,kb,k,hob,he4,u⟩))))))).trans hP4;have okk:=(ok5.known ob kb k' hob he5).1;have HWH:=gwhole_any (h5.known ob kb k' hob he5) okk;have hS:w1.heap.size<=w5.heap.size:=Nat.le_trans hb34 (Nat.le_trans hb4.size hb5.size)
  have HBT:Hid (But (r.foot rb) w1 w5):=⟨(hb5.os.trans hb4.os).trans hb3.os,(hb5.tape.trans hb4.tape).trans hb3.tape,(hb5.output.trans hb4.output).trans hb3.output,hS,fun z hz hn=>by
   have hz3:z<W3.heap.size:=Nat.lt_of_lt_of_le hz hb34;refine((hb5.block z (Nat.lt_of_lt_of_le hz3 hb4.size) (fun u=>?_)).trans (hb4.block z hz3 (fun u=>hn (.inr (.inr (.inl u)))))).trans (hb3.block z hz);rcases hf4 z (.inr (.inr (.inr (.inr (.inr ⟨ob,kb,k,hob,he4,u⟩)))))with v|v
   ·exact hn v
   ·omega⟩
  obtain⟨y0,y1,y2,y3,y4,y5,y6⟩:=pk7 hP5;by_cases hwh:k'.whole
  ·have hd0:decide ((k'.lks k'.ts.length).length=0)=true:=decide_eq_true ((Kn.whole_iff okk).2 hwh)
   rw[hd0]at HWH;go_wp2_with fail;refine HWH.mono ?_;rintro e w6 ⟨rfl,hb6⟩;clear HWH y0 y1 y2 y3 y4 y5 y6;have h6:=h5.above hb6;have hP6:=(hb6.block pb (lt_of_block hP5)).trans hP5;have HBT6:Hid (But (r.foot rb) w1 w6):=HBT.out.trans (Below.but hb6 _ (fun i h1 h2=>absurd h1 h2));have hln:=cat_take okk hwh;obtain⟨L,hL⟩:∃ z,z=(k'.cat k'.ts.length).take k'.len:=⟨_,rfl⟩;rw[<- hL]at hln
   have HBY:Hid (∀ X,Below w6.heap.size w6 X->Calls Tryz.prog 49 #[.pointer (some ⟨kb,0,none⟩)] X fun e w'=>∃ g cs,e=.returned (.slice (some ⟨g,0,none⟩) L.length L.length)/\X.heap.size<=g/\w'.heap[g]?=some (.cells cs 5 (0,0))/\Bs w' g 0 L/\Below X.heap.size X w'):=fun X hX=>by
    have:=gbytes_any ((h6.above hX).known ob kb k' hob he5) okk hwh;rw[<- hL,<- hln]at this;exact this
   have HFIN:Hid (∀ g v w',RcAt w' B rb ((r1.know ob kb k').done ⟨ob,g,L⟩ v)->w1.heap.size<=g->(∀ b,v.ownBlock=some b->r.uv.ownBlock=some b∨w1.heap.size<=b)->But (r.foot rb) w1 w'->DataHeard A r ob ln bl x d B rb w1 (.returned .nilIface) w'):=fun g v w' u1 u3 u4 u2=>.inr (.inr ⟨rfl,u2,kb,k,r1,k',hbg,hkept,.inr ⟨hwh,g,v,u3,by rw[<- hL];exact u1,fun b hx=>by
    rcases done_foot hx with z|z|z
    ·exact HF5.out b z
    ·exact(u4 b z).imp (fun y=>.inr (.inr (.inr (.inl y)))) id
    ·exact .inr (by rw[z];exact u3)⟩⟩)
   have HTK:Hid (∀ X g cs,Below w6.heap.size w6 X->w6.heap.size<=g->X.heap[g]?=some (.cells cs 5 (0,0))->Bs X g 0 L->Calls Tryz.prog 48 #[.pointer (some ⟨rb,0,none⟩),.int .i64 ob,.slice (some ⟨g,0,none⟩) L.length L.length] X fun e w'=>e=.returned (.tuple #[])/\Hid (DataHeard A r ob ln bl x d B rb w1 (.returned .nilIface) w')):=fun X g cs hX hg hc hBs=>by
    refine(take_any (u:=⟨ob,g,L⟩) (h6.above hX) ok5 hob (by show r1.un.length<16;rw[e5];exact hun) ⟨Nat.le_trans h6.lowB hg,⟨cs,hc⟩,hBs⟩ (fun m kb' k2 hm he hf=>?_)).mono ?_
    ·have:=((h6.known m kb' k2 hm he).foot_lt hf).2
     show False;have:g<w6.heap.size:=this;omega
    ·rintro e w' ⟨u1,⟨v,u2,u4⟩,u3⟩
     refine⟨u1,HFIN.out g v w' u2 (Nat.le_trans HBT6.out.size hg) (fun b hx=>(u4 b hx).imp (fun y=>by rw[<- e7];exact y) (fun y=>Nat.le_trans (Nat.le_trans HBT6.out.size hX.size) y)) (HBT6.out.trans ((Below.but hX _ (fun i h1 h2=>absurd h1 h2)).trans ⟨u3.os,u3.tape,u3.output,u3.size,fun z hz hn=>u3.block z hz (fun v=>hn ?_)⟩))⟩;rcases v with v|v|v
     ·exact .inl v
     ·exact .inr (.inr (.inl (by rw[v];exact e6)))
     ·exact .inr (.inr (.inr (.inl (by rw[<- e7];exact v))))
   have HP6:Hid (w6.heap[pb]?=_):=hP6;obtain⟨y0,y1,y2,y3,y4,y5,y6⟩:=pk7 hP6;clear h h3 h4 h5 h6 hb1 hb2 hb3 hb4 hb5 hb6 hP2 hP3 hP4 hP5 hP6 hL hln hbg hkept hlow hq4 hE hE3 nmb hmb hf4 hbA;go_upto_region 13 with fail
   go_region_with (first
    | (go_at_call 49;refine(HBY.out _ (by first | exact Below.refl _ _|exact(Below.refl _ _).drew)).mono ?_;rintro e w7 ⟨g,cs,rfl,hg,hcs,hBs,hb7⟩;have z1:=(pk7 ((hb7.block pb (lt_of_block HP6.out)).trans HP6.out)).2.1)
    | (go_at_call 48;refine(HTK.out _ g cs (by first | exact hb7|exact Below.undraw hb7|exact hb7.drew|exact(Below.undraw hb7).drew) hg hcs hBs).mono ?_;rintro e w8 ⟨rfl,HF8⟩))
   all_goals go_wp2_with fail
   all_goals go_ret
   all_goals exact HF8.out
  ·have hd0:decide ((k'.lks k'.ts.length).length=0)=false:=decide_eq_false (fun u=>hwh ((Kn.whole_iff okk).1 u))
   rw[hd0]at HWH;go_wp2_with fail;refine HWH.mono ?_;rintro e w6 ⟨rfl,hb6⟩;clear HWH y0 y1 y2 y3 y4 y5 y6;go_wp2_with fail;go_ret;exact .inr (.inr ⟨rfl,HBT.out.trans (Below.but hb6 _ (fun i h1 h2=>absurd h1 h2)),kb,k,r1,k',hbg,hkept,.inl ⟨hwh,h5.above hb6,HF5.out⟩⟩)
def RcvHears(A:Nat->Addr)(r:Rcv)(l:List Gf.F)(B rb:Nat)(w:World)(e:Ending)(w':World):Prop:=
 if r.shut=true then e=.returned (E A 8)/\w'=w else
 match parseE r.K r.N r.S l with
 | some (c,k)=>∃ v,e=.returned v/\Wr w w' v (k:Int) (E A c)/\Below w.heap.size w w'
 | none=>if ¬ bt l 0=1∨r.tk.getD (bt l 1) false=true then e=.returned .nilIface/\Below w.heap.size w w'
  else DataHeard A r (bt l 1) (lenOf l) (bt (l.drop 4) 0) (at_ (l.drop 4) 1) ((l.drop 4).drop 2) B rb w e w'
theorem rcvHear_any{A:Nat->Addr}{B0 B rb b o n c:Nat}{a:Option Addr}{l:List Gf.F}{r:Rcv}{w:World}(h:RcAt w B rb r)(ok:r.Ok)(hE:Errs A B0 w)(hET:ErrType w)(hB9:8<w.heap.size)(hl:l.length=n)(hn:n<=c)(hc:c<=9223372036854775807)(hn2:n<=140737488355328)(ha:0<n->a=some ⟨b,o,none⟩)(hB:Bs w b o l)(hb:0<n->b<w.heap.size)
 (hun:r.un.length<16):
 Calls Tryz.prog 21 #[.pointer (some ⟨rb,0,none⟩),.slice a n c] w (RcvHears A r l B rb w):=by
 by_cases hs:r.shut=true
 ·refine(rcvHear_shut h hE hs).mono ?_
  intro e w' q;unfold RcvHears;rw[if_pos hs];exact q
 ·have hs':r.shut=false:=by simpa using hs
  cases hpe:parseE r.K r.N r.S l with
  | some p=>
   obtain⟨ec,ek⟩:=p;refine(rcvHear_bad h ok hE hET hB9 hl hn hc hn2 ha hB hb hs' hpe).mono ?_;intro e w' q;unfold RcvHears;rw[if_neg hs,hpe];exact q
  | none=>
   by_cases hk:¬ bt l 0=1∨r.tk.getD (bt l 1) false=true
   ·refine(rcvHear_skip h ok hE hET hB9 hl hn hc hn2 ha hB hb hs' hpe hk).mono ?_
    intro e w' q;unfold RcvHears;rw[if_neg hs,hpe];show if _ then _ else _;rw[if_pos hk];exact q
   ·have hk1:bt l 0=1:=Classical.byContradiction fun q=>hk (.inl q)
    have htk:r.tk.getD (bt l 1) false=false:=by
     cases ht:r.tk.getD (bt l 1) false with
     | false=>rfl
     | true=>exact absurd (.inr ht) hk
    obtain⟨_,hle,hob⟩:=parse_head hpe;obtain⟨hblk,hdl⟩:=parse_dataE hpe hk1;obtain⟨k1,k8,kn,n16,s1,s8⟩:=ok.cfg;have hP:=parse_any A B0 a b o n c r.K r.N r.S l w hE hET hB9 ok.cfg hl hn hc hn2 ha hB hb;refine(rcvHear_core (x:=at_ (l.drop 4) 1) h ok hE hs' hob hle hblk hdl htk hun (hP.mono ?_)).mono ?_
    ·intro e w' hG
     obtain⟨q,he,q1,q2,q3,q4,q5⟩:=hG.data hpe hk1 s1;exact⟨q,he,⟨q1,q2,q3,q4⟩,q5⟩
    ·intro e w' q
     unfold RcvHears;rw[if_neg hs,hpe];show if _ then _ else _;rw[if_neg hk];exact q
theorem one_kept{W w1:World}{X:World}{u:Value}{t:TypeId}(hb:Below X.heap.size X w1)(hX:X.heap[W.heap.size]?=some (.cells #[u] t (0,0))):∀ j x,[u][j]?=some x->w1.cell? ((⟨W.heap.size,0,none⟩:Addr).add j)=some x:=by
 intro j x hj;have e:(⟨W.heap.size,0,none⟩:Addr).add j=⟨W.heap.size,j,none⟩:=by unfold Addr.add;split<;>simp_all
 rw[e,cell_of_row w1 _ j _ _ _ ((hb.block _ (lt_of_block hX)).trans hX)];simpa using hj
theorem askBytes_any(obj len M c6:Nat)(a6:Option Addr)(ds:List (Nat×Nat))(w:World)(ho:obj<256)(hl:len<65536)(hM:ds.length=M)(hM2:M<=300)(hown:w.ownsRow 0 122 2 (.slice a6 M c6) M (flat2 (debtVals ds))):
 Calls Tryz.prog 37 #[.agg #[.int .i64 0,.int .i64 obj,.int .i64 len,.int .i64 0,.int .i64 0,.slice none 0 0,.slice a6 M c6]] w fun e w'=>
  ∃ g cap,e=.returned (.slice (some ⟨g,0,none⟩) (5+2*M) cap)/\w'.ownsRow w.heap.size 5 1 (.slice (some ⟨g,0,none⟩) (5+2*M) cap) (5+2*M) (encL ([by8 2,by8 obj,by8 (len/256),by8 len]++[by8 M]++ds.flatMap (fun d=>[by8 d.1,by8 d.2])))/\Below w.heap.size w w':=by
 obtain⟨iU,hiU,hiU0,hiU1,hiU2⟩:=Tryz.u8_parts;have hX:=heap_alloc_new w (.cells #[.int .i64 0,.int .i64 obj,.int .i64 len,.int .i64 0,.int .i64 0,.slice none 0 0,.slice a6 M c6] 60);have hbW:=(Below.refl w.heap.size w).alloc (Nat.le_refl _) (.cells #[.int .i64 0,.int .i64 obj,.int .i64 len,.int .i64 0,.int .i64 0,.slice none 0 0,.slice a6 M c6] 60);go_enter Tryz.func37,Tryz.ntmps37;go_upto_region 1 with fail;generalize w.alloc (.cells #[.int .i64 0,.int .i64 obj,.int .i64 len,.int .i64 0,.int .i64 0,.slice none 0 0,.slice a6 M c6] 60)=W at *;have hXl:=lt_of_block hX
 go_cut[3] (fun t wx=>∃ g cap,t=.slice (some ⟨g,0,none⟩) 5 cap/\wx.ownsRow w.heap.size 5 1 (.slice (some ⟨g,0,none⟩) 5 cap) 5 (encL ([by8 2,by8 obj,by8 (len/256),by8 len]++[by8 M]))/\Below W.heap.size W wx)
 case first=>
  obtain⟨k0,k1,k2,k3,k4,k5,k6⟩:=pk7 hX;have hXn:¬ w.heap.size=W.heap.size:=Nat.ne_of_lt hXl;have hX2:(W.alloc (.cells #[.int .u8 (IntKind.u8.wrap (M:Int))] 5)).drew.heap[w.heap.size]?=some (.cells #[.int .i64 0,.int .i64 obj,.int .i64 len,.int .i64 0,.int .i64 0,.slice none 0 0,.slice a6 M c6] 60 (0,0)):=(Below.heap_alloc W _ _ hXl).trans hX;have hXl2:=lt_of_block hX2
  go_region_held3 (fun w'=>w'.cell? ⟨w.heap.size,0,none⟩=some (.int .i64 0)/\w'.cell? ⟨w.heap.size,1,none⟩=some (.int .i64 obj)/\w'.cell? ⟨w.heap.size,2,none⟩=some (.int .i64 len)/\w'.cell? ⟨w.heap.size,3,none⟩=some (.int .i64 0)/\w'.cell? ⟨w.heap.size,4,none⟩=some (.int .i64 0)/\w'.cell? ⟨w.heap.size,5,none⟩=some (.slice none 0 0)/\w'.cell? ⟨w.heap.size,6,none⟩=some (.slice a6 M c6)) (first | go_keep) (first
   | (go_at_call 63;refine(headBytes_own 2 obj len 0 0 0 _ _ _ (by omega) ho hl).mono ?_;rintro e w1 ⟨g1,rfl,hown1,hb1⟩;(have hX1:w1.heap[w.heap.size]?=some (.cells #[.int .i64 0,.int .i64 obj,.int .i64 len,.int .i64 0,.int .i64 0,.slice none 0 0,.slice a6 M c6] 60 (0,0)):=by first | exact(hb1.block _ hXl).trans hX|exact(hb1.block _ hXl2).trans hX2);obtain⟨m0,m1,m2,m3,m4,m5,m6⟩:=pk7 hX1;have hl1:=lt_of_block hX1;have hl2:¬ w.heap.size=w1.heap.size:=Nat.ne_of_lt hl1;have hgn:¬(Value.slice (some ⟨g1,0,none⟩) 4 4).ownBlock=some w.heap.size:=(fun hqq=>by have:=(hown1.lt _ hqq).1;first | omega|(simp at this;omega));(first | (have hnews:=one_kept hb1 (heap_alloc_new W (.cells #[.int .u8 (IntKind.u8.wrap (M:Int))] 5));have hwA:w.heap.size<=(W.alloc (.cells #[.int .u8 (IntKind.u8.wrap (M:Int))] 5)).drew.heap.size:=Nat.le_of_lt hXl2)|skip))
   | (refine step_append_lies _ (by rfl) _ _ _ (by rfl) w.heap.size 5 iU (.int .u8 0) 1 1 Tryz.underlying33 hiU hiU0 hiU1 hiU2 rfl (by omega) (.slice (some ⟨g1,0,none⟩) 4 4) 4 (encL [by8 2,by8 obj,by8 (len/256),by8 len]) (by rfl) ((own_base2 hown1 (Nat.le_of_lt hXl)).alloc _) ⟨w1.heap.size,0,none⟩ 1 1 [.int .u8 (IntKind.u8.wrap (M:Int))] (by rfl) rfl (cell_one_at w1 _ _ _ rfl) (by intro u hu;simp at hu;subst hu;rfl) (by omega) (by unfold maxLen;omega) (by omega) (by simp;omega) _ rfl ?_;intro g2 cap2 w3 hown3 hgr3 hlie3 hlt3;have hX3:w3.heap[w.heap.size]?=some (.cells #[.int .i64 0,.int .i64 obj,.int .i64 len,.int .i64 0,.int .i64 0,.slice none 0 0,.slice a6 M c6] 60 (0,0)):=(grown_block hgr3 (by simp;omega) hgn).trans ((Below.heap_alloc w1 _ _ hl1).trans hX1);obtain⟨n0,n1,n2,n3,n4,n5,n6⟩:=pk7 hX3)
   | (refine step_append_lies _ (by rfl) _ _ _ (by rfl) w.heap.size 5 iU (.int .u8 0) 1 1 Tryz.underlying33 hiU hiU0 hiU1 hiU2 rfl (by omega) (.slice (some ⟨g1,0,none⟩) 4 4) 4 (encL [by8 2,by8 obj,by8 (len/256),by8 len]) (by rfl) (own_base2 hown1 hwA) ⟨W.heap.size,0,none⟩ 1 1 [.int .u8 (IntKind.u8.wrap (M:Int))] (by rfl) rfl (hnews) (by intro u hu;simp at hu;subst hu;rfl) (by omega) (by unfold maxLen;omega) (by omega) (by omega) _ rfl ?_;intro g2 cap2 w3 hown3 hgr3 hlie3 hlt3;have hX3:w3.heap[w.heap.size]?=some (.cells #[.int .i64 0,.int .i64 obj,.int .i64 len,.int .i64 0,.int .i64 0,.slice none 0 0,.slice a6 M c6] 60 (0,0)):=(grown_block hgr3 (hl1) hgn).trans (hX1);obtain⟨n0,n1,n2,n3,n4,n5,n6⟩:=pk7 hX3))
  all_goals go_wp2_with fail
  all_goals go_meet
  all_goals (have eL:encL [by8 2,by8 obj,by8 (len/256),by8 len]++[Value.int .u8 (IntKind.u8.wrap (M:Int))]=encL ([by8 2,by8 obj,by8 (len/256),by8 len]++[by8 M]):=by simp[encL,wrap_by8])
  all_goals rw[eL]at hown3
  all_goals first
   | exact⟨g2,cap2,rfl,hown3,((Below.undraw hb1).alloc (by have:=hb1.size;exact this) _).grown hgr3 (by have:=hb1.size;simp;exact Nat.le_succ_of_le this) (fun t ht=>(hown1.lt t ht).1)⟩
   | exact⟨g2,cap2,rfl,hown3,((((Below.refl _ W).alloc (Nat.le_refl _) _).drew).trans (hb1.mono (by simp))).grown hgr3 (by have:=hb1.size;simp at this;omega) (fun t ht=>by have:=(hown1.lt t ht).1;simp at this;omega)⟩
 case rest=>
  obtain⟨g,cap,rfl,hown5,hbx⟩:=hcut;have hXc:=(hbx.block _ hXl).trans hX;obtain⟨k0,k1,k2,k3,k4,k5,k6⟩:=pk7 hXc;have hBx:=hbW.trans (hbx.mono hbW.size);have HWX:Hid (Below w.heap.size w wc):=hBx;have HL:Hid (∀ X,Below w.heap.size w X->X.ownsRow 0 122 2 (.slice a6 M c6) M (flat2 (debtVals ds))):=fun X hx=>own_of_block hown (fun z hz=>hx.block z (hown.lt z hz).2)
  clear hX hbW hbx hXc hXl hown;go_upto_region 3 with fail
  go_loopw[3,5,17] (fun v _ t wr=>∃(i:Nat) (g:Nat) (cap:Nat),i<=M/\t=.int .i64 i/\v=.slice (some ⟨g,0,none⟩) (5+2*i) cap/\wr.ownsRow w.heap.size 5 1 (.slice (some ⟨g,0,none⟩) (5+2*i) cap) (5+2*i) (encL ([by8 2,by8 obj,by8 (len/256),by8 len]++[by8 M]++(ds.take i).flatMap (fun d=>[by8 d.1,by8 d.2])))/\Hid (Below w.heap.size w wr)) (fun _ _ t _=>M - (intOf t).toNat)
  case atStart=>exact⟨0,g,cap,by omega,rfl,rfl,by simpa using hown5,HWX⟩
  case round=>
   obtain⟨i,g,cap,hi,rfl,rfl,hown,hbr⟩:=hrel;by_cases hlt:i<M
   ·have hlt1:(i:Int)<(M:Int):=by omega
    obtain⟨p,hp⟩:∃ p,ds[i]?=some p:=⟨_,List.getElem?_eq_getElem (by omega)⟩;obtain⟨d1,d2⟩:=p;have hR:=HL.out wr hbr.out;obtain⟨ga,ca,hv6,_,_⟩:=hR.form (by omega);simp only[Value.slice.injEq]at hv6;obtain⟨rfl,-,-⟩:=hv6;have eadd:∀ j,(⟨ga,0,none⟩:Addr).add j=⟨ga,j,none⟩:=fun j=>by unfold Addr.add;split<;>simp_all
    have x0:=hR.cells (g:=ga) rfl (i*2) (.int .i64 d1) (by rw[Nat.mul_comm,flat2_get0];simp[debtVals,hp]);have x1:=hR.cells (g:=ga) rfl (i*2+1) (.int .i64 d2) (by rw[Nat.mul_comm,flat2_get1];simp[debtVals,hp]);rw[eadd]at x0 x1;clear hR k0 k1 k2 k3 k4 k5 k6;have hA:=heap_alloc_new wr (.cells #[.int .i64 d1,.int .i64 d2] 122);have HBA:Hid (Below w.heap.size w (wr.alloc (.cells #[.int .i64 d1,.int .i64 d2] 122))):=hbr.out.alloc hbr.out.size _;have hownA:=hown.alloc (.cells #[.int .i64 d1,.int .i64 d2] 122)
    have HEN:Hid (encL ([by8 2,by8 obj,by8 (len/256),by8 len]++[by8 M]++(ds.take i).flatMap (fun d=>[by8 d.1,by8 d.2]))++[Value.int .u8 (IntKind.u8.wrap (d1:Int)),Value.int .u8 (IntKind.u8.wrap (d2:Int))]=encL ([by8 2,by8 obj,by8 (len/256),by8 len]++[by8 M]++(ds.take (i+1)).flatMap (fun d=>[by8 d.1,by8 d.2]))):=by
     show _=_;rw[List.take_add_one,hp];simp[encL,wrap_by8]
    generalize hE0:encL ([by8 2,by8 obj,by8 (len/256),by8 len]++[by8 M]++(ds.take i).flatMap (fun d=>[by8 d.1,by8 d.2]))=E0 at hown hownA HEN;go_upto_region 5 with fail;generalize wr.alloc (.cells #[.int .i64 d1,.int .i64 d2] 122)=wA at *;have z0:wA.cell? ⟨wr.heap.size,0,none⟩=some (.int .i64 d1):=cell_of_row wA _ 0 _ _ _ hA;have z1:wA.cell? ⟨wr.heap.size,1,none⟩=some (.int .i64 d2):=cell_of_row wA _ 1 _ _ _ hA;have HMX:Hid (5+2*i+2<=maxLen):=by show _<=_;unfold maxLen;omega
    have hs0:=HBA.out.size;generalize wr.heap.size=hz at *;go_wp2_with (at_builtin;refine wpList_append_lies _ rfl _ _ _ rfl w.heap.size 5 iU (.int .u8 0) 1 1 Tryz.underlying33 hiU hiU0 hiU1 hiU2 rfl (by omega) (.slice (some ⟨g,0,none⟩) (5+2*i) cap) (5+2*i) E0 rfl (hownA.alloc _) ⟨wA.heap.size,0,none⟩ 2 2 [.int .u8 (IntKind.u8.wrap (d1:Int)),.int .u8 (IntKind.u8.wrap (d2:Int))] rfl rfl (cell_two_at wA _ _ _ _ rfl) (by intro u hu;simp at hu;rcases hu with rfl|rfl<;>rfl) (by omega) HMX.out (by omega) (by simp;omega) _ rfl ?_);intro g6 cap6 w6 hown6 hgr6 hlie6 hlt6;go_wp2_with fail
    go_roundw
    case rel=>
     refine⟨i+1,g6,cap6,by omega,by go_num,by simp;omega,?_,((HBA.out.alloc hs0 _).grown hgr6 (by simp;omega) (fun t ht=>(hownA.lt t ht).1))⟩;rw[HEN.out]at hown6;exact hown6
    case measure=>simp[intOf];omega
   ·obtain rfl:i=M:=by omega
    have hlt1:¬(i:Int)<(i:Int):=by omega
    go_wp2_with fail;go_ret;refine⟨g,cap,rfl,?_,hbr.out⟩;rw[List.take_of_length_le (by omega)]at hown;exact hown
def askOf(obj len:Nat)(ds:List (Nat×Nat)):List Gf.F:=[by8 2,by8 obj,by8 (len/256),by8 len]++[by8 ds.length]++ds.flatMap (fun d=>[by8 d.1,by8 d.2])
def AskTells(A:Nat->Addr)(r:Rcv)(w:World)(e:Ending)(w':World):Prop:=
 Below w.heap.size w w'/\
 ((r.shut=true/\e=.returned (.tuple #[.slice none 0 0,E A 8]))∨
  (r.shut=false/\(∀ j,j<16->r.kf j=none)/\e=.returned (.tuple #[.slice none 0 0,.nilIface]))∨
  (r.shut=false/\∃ m kb k,m<16/\(∀ j,j<m->r.kf j=none)/\r.kf m=some (kb,k)/\∃ g cap,e=.returned (.tuple #[.slice (some ⟨g,0,none⟩) (5+2*(k.lks k.ts.length).length) cap,.nilIface])/\
   w'.ownsRow w.heap.size 5 1 (.slice (some ⟨g,0,none⟩) (5+2*(k.lks k.ts.length).length) cap) (5+2*(k.lks k.ts.length).length) (encL (askOf m k.len (k.lks k.ts.length)))))
theorem ask_any{A:Nat->Addr}{B0 B rb:Nat}{r:Rcv}{w:World}(h:RcAt w B rb r)(ok:r.Ok)(hE:Errs A B0 w):
 Calls Tryz.prog 15 #[.pointer (some ⟨rb,0,none⟩)] w (AskTells A r w):=by
 have HC:=h.isClosed;have g7:w.cell? ⟨0,0,none⟩=some (.iface 269 (.pointer (some (A 7)))):=hE.cell 7 (by omega);obtain⟨_,_,_,_,c4⟩:=h.head;have HH:Hid (RcAt w B rb r):=h;clear h hE
 cases hs:r.shut with
 | true=>
  rw[hs]at HC;go_enter Tryz.func15,Tryz.ntmps15;go_wp2_with fail;refine HC.mono ?_;rintro e w1 ⟨rfl,rfl⟩;go_wp2_with fail
  go_quiet (fail)
  go_wp2_with fail;go_ret2;exact⟨below_drew rfl,.inl ⟨hs,rfl⟩⟩
 | false=>
  rw[hs]at HC;go_enter Tryz.func15,Tryz.ntmps15;go_wp2_with fail;refine HC.mono ?_;rintro e w1 ⟨rfl,rfl⟩;clear HC;go_upto_region 4 with fail
  go_loopw[4,5,6,10] (fun _ _ _ t wr=>∃ i:Nat,i<=16/\t=.int .i64 i/\Hid (∀ j,j<i->r.kf j=none)/\wr=w1) (fun _ _ _ t _=>16 - (intOf t).toNat)
  case atStart=>exact⟨0,by omega,rfl,fun j hj=>by omega,rfl⟩
  case round=>
   obtain⟨i,hi,rfl,hno,rfl⟩:=hrel;by_cases hlt:i<16
   ·have hlt1:(i:Int)<16:=by omega
    have HL:=HH.out.look hlt
    cases hk:r.kf i with
    | none=>
     rw[hk]at HL;have HL':(Instr.lookup 105 (.map (some r.mb)) (.int .i64 i) true).run Tryz.prog wr=.ok (.tuple #[.pointer none,.bool false]) wr:=HL;clear HL;go_wp2_with fail
     go_roundw
     case rel=>
      have HNO:Hid (∀ j,j<i+1->r.kf j=none):=fun j hj=>by
       by_cases e:j=i
       ·rw[e];exact hk
       ·exact hno.out j (by omega)
      exact⟨i+1,by omega,by go_num,HNO,by first | trivial|rfl⟩
     case measure=>simp[intOf];omega
    | some x=>
     obtain⟨kb,k⟩:=x;rw[hk]at HL;have HL':(Instr.lookup 105 (.map (some r.mb)) (.int .i64 i) true).run Tryz.prog wr=.ok (.tuple #[.pointer (some ⟨kb,0,none⟩),.bool true]) wr:=HL;clear HL;have hK:=HH.out.known i kb k hlt hk;have hko:=(ok.known i kb k hlt hk).1;have HLEN:=glength_any hK;have HLAC:=glacks_any hK hko;have hl255:=hko.len
     have HM:Hid ((k.lks k.ts.length).length<=300):=by
      show _<=_;have h1:=k.lks_le k.ts.length;have h2:=hko.blocks;obtain⟨k1,k8,kn,n16,s1,s8⟩:=hko.cfg;have h3:=symN_range (S:=k.S) (len:=k.len) s1;have h4:=partsN_le (a:=k.T) k1;have h5:k.T=symN k.S k.len:=rfl;omega
     go_wp2_with fail;refine HLEN.mono ?_;rintro e w2 ⟨rfl,rfl⟩;go_wp2_with fail;refine HLAC.mono ?_;rintro e w3 ⟨v,rfl,hown3,hb3⟩;obtain⟨xa,xc,rfl,_⟩:=own_form2 hown3;have HAB:=askBytes_any i k.len _ xc xa (k.lks k.ts.length) w3 (by omega) (by omega) rfl HM.out (own_base2 hown3 (Nat.zero_le _));clear HLEN HLAC;go_wp2_with fail;refine HAB.mono ?_;rintro e w4 ⟨g,cap,rfl,hown4,hb4⟩;clear HAB;go_wp2_with fail;go_ret2;exact⟨hb3.trans (hb4.mono hb3.size),.inr (.inr ⟨hs,i,kb,k,hlt,hno.out,hk,g,cap,rfl,own_base2 hown4 hb3.size⟩)⟩
   ·obtain rfl:i=16:=by omega
    go_wp2_with fail;go_ret2;exact⟨Below.refl _ _,.inr (.inl ⟨hs,hno.out,rfl⟩)⟩
end Go.Proofs.YtjabhnhejbhgjaaGreatDoor
namespace Go.Proofs.YtjabhnhejbhgjaaGreatDoor
open Go.RowKit
structure Pk where
 blk:Nat
 plc:Nat
 d:Row
def pkCells(ob len:Nat)(p:Pk):List Value:=[.int .i64 1,.int .i64 ob,.int .i64 len,.int .i64 (p.blk:Int),.int .i64 (p.plc:Int),p.d.val,.slice none 0 0]
structure Prt where
 n:Nat
 len:Nat
 ps:List Pk
 pv:Value
def Prt.cells(x:Prt):List Value:=[.int .i64 (x.n:Int),.int .i64 (x.len:Int),x.pv]
def prt0:Prt:=⟨0,0,[],.slice none 0 0⟩
def prat(kn:List Prt)(i:Nat):Prt:=kn.getD i prt0
def pk0:Pk:=⟨0,0,row0⟩
def pkat(ps:List Pk)(i:Nat):Pk:=ps.getD i pk0
theorem prat_some{kn:List Prt}{i:Nat}(h:i<kn.length):kn[i]?=some (prat kn i):=by simp[prat,List.getD,h]
theorem pkat_some{ps:List Pk}{i:Nat}(h:i<ps.length):ps[i]?=some (pkat ps i):=by simp[pkat,List.getD,h]
theorem prat_set{kn:List Prt}{i:Nat}(hi:i<kn.length)(x:Prt)(j:Nat):prat (kn.set i x) j=if i=j then x else prat kn j:=by
 unfold prat;rw[List.getD_eq_getElem?_getD,List.getD_eq_getElem?_getD,List.getElem?_set];split
 ·rename_i e;subst e;simp
 ·rfl
theorem flat_get{α:Type}(f:α->List Value)(s:Nat)(hf:∀ x,(f x).length=s):∀(xs:List α) (i k:Nat),k<s->(xs.flatMap f)[i*s+k]?=(xs[i]?).bind fun x=>(f x)[k]?
 | [],i,k,_=>by simp
 | x :: xs,0,k,hk=>by
  rw[List.flatMap_cons,Nat.zero_mul,Nat.zero_add,List.getElem?_append_left (by rw[hf];exact hk)];rfl
 | x :: xs,i+1,k,hk=>by
  rw[List.flatMap_cons,List.getElem?_append_right (by rw[hf,Nat.succ_mul];omega),hf,show(i+1)*s+k - s=i*s+k by rw[Nat.succ_mul];omega,flat_get f s hf xs i k hk];rfl
theorem flat_len{α:Type}(f:α->List Value)(s:Nat)(hf:∀ x,(f x).length=s):∀ xs:List α,(xs.flatMap f).length=xs.length*s
 | []=>by simp
 | x :: xs=>by rw[List.flatMap_cons,List.length_append,hf,flat_len f s hf xs,List.length_cons,Nat.succ_mul];omega
structure Tn where
 n:Nat
 r:Row
def tnVals(ts:List Tn):List (Value×Value):=ts.map fun t=>(.int .i64 (t.n:Int),t.r.val)
structure Rrv where
 K:Nat
 N:Nat
 S:Nat
 kn:List Prt
 kv:Value
 wh:List Nat
 wv:Value
 tk:List Tn
 tv:Value
 shut:Bool
def Rrv.foot(r:Rrv)(rb b:Nat):Prop:=b=rb∨r.kv.ownBlock=some b∨r.wv.ownBlock=some b∨r.tv.ownBlock=some b∨(∃ t ∈ r.tk,b=t.r.b)∨∃ i,i<r.kn.length/\((prat r.kn i).pv.ownBlock=some b∨∃ p ∈(prat r.kn i).ps,b=p.d.b)
structure RrAt(w:World)(B rb:Nat)(r:Rrv):Prop where
 low:B<=rb
 blk:w.heap[rb]?=some (.cells #[.int .i64 (r.K:Int),.int .i64 (r.N:Int),.int .i64 (r.S:Int),r.kv,r.wv,r.tv,.bool r.shut] 200 (0,0))
 kown:w.ownsRow B 204 3 r.kv r.kn.length (r.kn.flatMap Prt.cells)
 pown:∀ i,i<r.kn.length->w.ownsRow B 60 7 (prat r.kn i).pv (prat r.kn i).ps.length ((prat r.kn i).ps.flatMap (pkCells (prat r.kn i).n (prat r.kn i).len))
 rows:∀ i,i<r.kn.length->∀ p ∈(prat r.kn i).ps,B<=p.d.b/\(∃ cs,w.heap[p.d.b]?=some (.cells cs 5 (0,0)))/\Bs w p.d.b p.d.o p.d.l
 wown:w.ownsRow B 3 1 r.wv r.wh.length (r.wh.map fun n:Nat=>Value.int .i64 n)
 town:w.ownsRow B 136 2 r.tv r.tk.length (flat2 (tnVals r.tk))
 objs:∀ t ∈ r.tk,B<=t.r.b/\(∃ cs,w.heap[t.r.b]?=some (.cells cs 5 (0,0)))/\Bs w t.r.b t.r.o t.r.l
 apart:∀ i j,i<r.kn.length->j<r.kn.length->∀ g,(prat r.kn i).pv.ownBlock=some g->(prat r.kn j).pv.ownBlock=some g->i=j
theorem RrAt.foot_lt{w:World}{B rb:Nat}{r:Rrv}(h:RrAt w B rb r){b:Nat}(hb:r.foot rb b):B<=b/\b<w.heap.size:=by
 rcases hb with rfl|hb|hb|hb|⟨t,ht,rfl⟩|⟨i,hi,hb|⟨p,hp,rfl⟩⟩
 ·exact⟨h.low,lt_of_block h.blk⟩
 ·exact h.kown.lt b hb
 ·exact h.wown.lt b hb
 ·exact h.town.lt b hb
 ·obtain⟨h1,⟨cs,h2⟩,_⟩:=h.objs t ht
  exact⟨h1,lt_of_block h2⟩
 ·exact(h.pown i hi).lt b hb
 ·obtain⟨h1,⟨cs,h2⟩,_⟩:=h.rows i hi p hp
  exact⟨h1,lt_of_block h2⟩
theorem bs_block{w w':World}{b o:Nat}{l:List Gf.F}(h:Bs w b o l)(hk:w'.heap[b]?=w.heap[b]?):Bs w' b o l:=fun i hi=>by
 rw[World.cell?_of_block (w:=w) (a:=⟨b,o+i,none⟩) hk];exact h i hi
theorem RrAt.kept{w w':World}{B rb:Nat}{r:Rrv}(h:RrAt w B rb r)(hk:∀ b,r.foot rb b->w'.heap[b]?=w.heap[b]?):RrAt w' B rb r:=by
 refine⟨h.low,(hk rb (.inl rfl)).trans h.blk,own_of_block h.kown (fun g hg=>hk g (.inr (.inl hg))),fun i hi=>own_of_block (h.pown i hi) (fun g hg=>hk g (.inr (.inr (.inr (.inr (.inr ⟨i,hi,.inl hg⟩)))))),fun i hi p hp=>?_,own_of_block h.wown (fun g hg=>hk g (.inr (.inr (.inl hg)))),own_of_block h.town (fun g hg=>hk g (.inr (.inr (.inr (.inl hg))))),fun t ht=>?_,h.apart⟩
 ·obtain⟨h1,⟨cs,h2⟩,h3⟩:=h.rows i hi p hp
  have he:=hk _ (.inr (.inr (.inr (.inr (.inr ⟨i,hi,.inr ⟨p,hp,rfl⟩⟩)))));exact⟨h1,⟨cs,he.trans h2⟩,bs_block h3 he⟩
 ·obtain⟨h1,⟨cs,h2⟩,h3⟩:=h.objs t ht
  have he:=hk _ (.inr (.inr (.inr (.inr (.inl ⟨t,ht,rfl⟩)))));exact⟨h1,⟨cs,he.trans h2⟩,bs_block h3 he⟩
theorem RrAt.above{w w':World}{B rb:Nat}{r:Rrv}(h:RrAt w B rb r)(hb:Below w.heap.size w w'):RrAt w' B rb r:=h.kept (fun b q=>hb.block b (h.foot_lt q).2)
theorem RrAt.cells{w:World}{B rb:Nat}{r:Rrv}(h:RrAt w B rb r):w.cell? ⟨rb,0,none⟩=some (.int .i64 (r.K:Int))/\w.cell? ⟨rb,1,none⟩=some (.int .i64 (r.N:Int))/\w.cell? ⟨rb,2,none⟩=some (.int .i64 (r.S:Int))/\w.cell? ⟨rb,3,none⟩=some r.kv/\w.cell? ⟨rb,4,none⟩=some r.wv/\w.cell? ⟨rb,5,none⟩=some r.tv/\w.cell? ⟨rb,6,none⟩=some (.bool r.shut):=
 ⟨cell_of_row w _ 0 _ _ _ h.blk,cell_of_row w _ 1 _ _ _ h.blk,cell_of_row w _ 2 _ _ _ h.blk,cell_of_row w _ 3 _ _ _ h.blk,cell_of_row w _ 4 _ _ _ h.blk,cell_of_row w _ 5 _ _ _ h.blk,cell_of_row w _ 6 _ _ _ h.blk⟩
def rrv0(K N S:Nat):Rrv:=⟨K,N,S,[],.slice none 0 0,[],.slice none 0 0,[],.slice none 0 0,false⟩
theorem rrv0_at{K N S B rb:Nat}{w:World}(hB:B<=rb)(h:w.heap[rb]?=some (.cells #[.int .i64 K,.int .i64 N,.int .i64 S,.slice none 0 0,.slice none 0 0,.slice none 0 0,.bool false] 200 (0,0))):RrAt w B rb (rrv0 K N S):=
 ⟨hB,h,World.ownsRow_nil ..,fun i hi=>by simp[rrv0]at hi,fun i hi=>by simp[rrv0]at hi,World.ownsRow_nil ..,World.ownsRow_nil ..,fun t ht=>by simp[rrv0]at ht,fun i j hi=>by simp[rrv0]at hi⟩
theorem rnewReceiver_ok(K N S:Nat)(hcb:cfgB (K:Int) (N:Int) (S:Int)=true)(w:World):
 Calls Tryz.prog 85 #[.agg #[.int .i64 K,.int .i64 N,.int .i64 S]] w fun e w'=>
  ∃ rb,e=.returned (.tuple #[.pointer (some ⟨rb,0,none⟩),.agg #[.int .i64 0,.int .i64 (-1)]])/\RrAt w' w.heap.size rb (rrv0 K N S)/\Below w.heap.size w w':=by
 have hic:=fun W=>right_any (K:Int) (N:Int) (S:Int) W
 rw[hcb]at hic;have hC:=CfgAt.start w K N S;go_enter Tryz.func85,Tryz.ntmps85;go_upto_region 1 with fail;have hE0:=heap_alloc_new (w.alloc (.cells #[.int .i64 K,.int .i64 N,.int .i64 S] 30)) (.cells #[.int .i64 0,.int .i64 0] 139);have hC0:=hC.then ((Below.refl _ _).alloc (Nat.le_refl _) (.cells #[.int .i64 0,.int .i64 0] 139));have esz:(w.alloc (.cells #[.int .i64 K,.int .i64 N,.int .i64 S] 30)).heap.size=w.heap.size+1:=by simp
 rw[esz]at hE0;generalize (w.alloc (.cells #[.int .i64 K,.int .i64 N,.int .i64 S] 30)).alloc (.cells #[.int .i64 0,.int .i64 0] 139)=W at *;clear hC esz;generalize hEq:w.heap.size+1=E at *;have HEQ:Hid (E=w.heap.size+1):=hEq.symm;clear hEq;obtain⟨x0,x1,x2⟩:=hC0.cells;go_wp2_with fail;refine(hic _).mono ?_;rintro e w1 ⟨rfl,hb1⟩;have hC1:=hC0.then hb1;have hE1:=(hb1.block _ (lt_of_block hE0)).trans hE0;clear x0 x1 x2 hC0 hE0 hb1 hic;obtain⟨x0,x1,x2⟩:=hC1.cells;go_upto_region 4 with fail;have hn1:¬ w.heap.size=w1.heap.size:=Nat.ne_of_lt hC1.lt;have hn2:¬ E=w1.heap.size:=Nat.ne_of_lt (lt_of_block hE1)
 have HFIN:Hid (∀(W2:World) (rb:Nat),Below w1.heap.size w1 W2->W2.heap[rb]?=some (.cells #[.int .i64 K,.int .i64 N,.int .i64 S,.slice none 0 0,.slice none 0 0,.slice none 0 0,.bool false] 200 (0,0))->w1.heap.size<=rb->
  RrAt ((W2.setCell ⟨E,0,none⟩ (.int .i64 0)).setCell ⟨E,1,none⟩ (.int .i64 (-1))) w.heap.size rb (rrv0 K N S)/\Below w.heap.size w ((W2.setCell ⟨E,0,none⟩ (.int .i64 0)).setCell ⟨E,1,none⟩ (.int .i64 (-1)))/\((W2.setCell ⟨E,0,none⟩ (.int .i64 0)).setCell ⟨E,1,none⟩ (.int .i64 (-1))).heap[E]?=some (.cells #[.int .i64 0,.int .i64 (-1)] 139 (0,0))):=fun W2 rb hb hrb hle=>by
  have hE2:=(hb.block _ (lt_of_block hE1)).trans hE1;obtain⟨p1,p2⟩:=putE W2 (E) _ _ (.int .i64 0) (.int .i64 (-1)) _ hE2;have hlow:Below w.heap.size w W2:=hC1.low.trans (hb.mono hC1.low.size);have h1:=lt_of_block hE1;have h2:=hC1.low.size;refine⟨rrv0_at (by omega) ?_,hlow.trans (p2.toBelow hlow.size (fun k hk q=>by have:=HEQ.out;omega)),p1⟩;exact(p2.block rb (lt_of_block hrb) (by have:=HEQ.out;omega)).trans hrb
 have hEl:=lt_of_block hE1;have HE:Hid (∀ W2,Below w1.heap.size w1 W2->W2.heap[E]?=some (.cells #[.int .i64 0,.int .i64 0] 139 (0,0))):=fun W2 hb=>(hb.block _ hEl).trans hE1
 have HC:Hid (∀ W2,Below w1.heap.size w1 W2->CfgAt w W2 K N S):=fun W2 hb=>hC1.then hb
 obtain⟨y0,y1,f0,f1⟩:=twoE hE1
 go_region_with (first
  | (go_at_call 93;refine(none_err _).mono ?_;rintro e w2 ⟨rfl,hb2⟩;(have hbX:Below w1.heap.size w1 w2:=by first | exact Below.undraw hb2|exact(((Below.refl _ w1).alloc (Nat.le_refl _) _).drew).trans (hb2.mono (by simp))|exact((Below.refl _ w1).alloc (Nat.le_refl _) _).trans (hb2.mono (by simp)));have hk9:=(HC.out w2 hbX).cells;obtain⟨y0',y1',f0',f1'⟩:=twoE (HE.out w2 hbX);have hn3:¬ w.heap.size=w2.heap.size:=Nat.ne_of_lt (HC.out w2 hbX).lt;have hn4:¬ E=w2.heap.size:=Nat.ne_of_lt (lt_of_block (HE.out w2 hbX));obtain⟨ya,yb,fa,fb⟩:=twoE ((Below.heap_alloc w2 (.cells #[.int .i64 K,.int .i64 N,.int .i64 S,.slice none 0 0,.slice none 0 0,.slice none 0 0,.bool false] 200) E (lt_of_block (HE.out w2 hbX))).trans (HE.out w2 hbX))))
 all_goals go_wp2_with fail
 all_goals first
  | (obtain⟨hR,hB,hX⟩:=HFIN.out w2 w1.heap.size hbX ((hb2.block _ (by simp)).trans (heap_alloc_new w1 _)) (Nat.le_refl _);obtain⟨q0,q1,_,_⟩:=twoE hX;exact bodyPost_ret (v:=.tuple #[.pointer (some ⟨w1.heap.size,0,none⟩),.agg #[.int .i64 0,.int .i64 (-1)]]) (by simp[results,Tryz.results85,go_sem,q0,q1]) rfl ⟨_,rfl,hR,hB⟩)
  | (obtain⟨hR,hB,hX⟩:=HFIN.out (w2.alloc (.cells #[.int .i64 K,.int .i64 N,.int .i64 S,.slice none 0 0,.slice none 0 0,.slice none 0 0,.bool false] 200)) w2.heap.size (hbX.alloc hbX.size _) (heap_alloc_new w2 _) hbX.size;obtain⟨q0,q1,_,_⟩:=twoE hX;exact bodyPost_ret (v:=.tuple #[.pointer (some ⟨w2.heap.size,0,none⟩),.agg #[.int .i64 0,.int .i64 (-1)]]) (by simp[results,Tryz.results85,go_sem,q0,q1]) rfl ⟨_,rfl,hR,hB⟩)
theorem rnewReceiver_no(K N S:Int)(hcb:cfgB K N S=false)(w:World):
 Calls Tryz.prog 85 #[.agg #[.int .i64 K,.int .i64 N,.int .i64 S]] w fun e w'=>
  e=.returned (.tuple #[.pointer none,.agg #[.int .i64 1,.int .i64 (-1)]])/\Below w.heap.size w w':=by
 have hic:=fun W=>right_any K N S W
 rw[hcb]at hic;go_enter Tryz.func85,Tryz.ntmps85;go_upto_region 1 with fail;have hb0:Below w.heap.size w ((w.alloc (.cells #[.int .i64 K,.int .i64 N,.int .i64 S] 30)).alloc (.cells #[.int .i64 0,.int .i64 0] 139)):=((Below.refl _ _).alloc (Nat.le_refl _) _).alloc (by simp) _;have hE0:=heap_alloc_new (w.alloc (.cells #[.int .i64 K,.int .i64 N,.int .i64 S] 30)) (.cells #[.int .i64 0,.int .i64 0] 139);have hC0:((w.alloc (.cells #[.int .i64 K,.int .i64 N,.int .i64 S] 30)).alloc (.cells #[.int .i64 0,.int .i64 0] 139)).heap[w.heap.size]?=some (.cells #[.int .i64 K,.int .i64 N,.int .i64 S] 30 (0,0)):=(Below.heap_alloc _ _ _ (by simp)).trans (heap_alloc_new w _);have esz:(w.alloc (.cells #[.int .i64 K,.int .i64 N,.int .i64 S] 30)).heap.size=w.heap.size+1:=by simp
 rw[esz]at hE0;generalize (w.alloc (.cells #[.int .i64 K,.int .i64 N,.int .i64 S] 30)).alloc (.cells #[.int .i64 0,.int .i64 0] 139)=W at *;clear esz;generalize hEq:w.heap.size+1=E at *;have HEQ:Hid (E=w.heap.size+1):=hEq.symm;clear hEq;have x0:W.cell? ⟨w.heap.size,0,none⟩=some (.int .i64 K):=cell_of_row W _ 0 _ _ _ hC0;have x1:W.cell? ⟨w.heap.size,1,none⟩=some (.int .i64 N):=cell_of_row W _ 1 _ _ _ hC0;have x2:W.cell? ⟨w.heap.size,2,none⟩=some (.int .i64 S):=cell_of_row W _ 2 _ _ _ hC0;go_wp2_with fail;refine(hic _).mono ?_;rintro e w1 ⟨rfl,hb1⟩;have hE1:=(hb1.block _ (lt_of_block hE0)).trans hE0;have hbw1:Below w.heap.size w w1:=hb0.trans (hb1.mono hb0.size);clear x0 x1 x2 hC0 hE0 hb1 hic hb0;go_wp2_with fail;refine(plain_err 1 _).mono ?_;rintro e w2 ⟨rfl,hb2⟩;have hE2:=(hb2.block _ (lt_of_block hE1)).trans hE1;obtain⟨y0,y1,f0,f1⟩:=twoE hE2;obtain⟨p1,p2⟩:=putE w2 E _ _ (.int .i64 1) (.int .i64 (-1)) _ hE2;obtain⟨q0,q1,_,_⟩:=twoE p1;have hbw2:Below w.heap.size w w2:=hbw1.trans (hb2.mono hbw1.size);have hfin:Below w.heap.size w _:=hbw2.trans (p2.toBelow hbw2.size (fun k hk q=>by have:=HEQ.out;omega));go_wp2_with fail;exact bodyPost_ret (v:=.tuple #[.pointer none,.agg #[.int .i64 1,.int .i64 (-1)]]) (by simp[results,Tryz.results85,go_sem,q0,q1]) rfl ⟨rfl,hfin⟩
theorem RrAt.put{w w':World}{B rb:Nat}{r r':Rrv}(h:RrAt w B rb r)(hb:But (fun b=>b=rb) w w')(hblk:w'.heap[rb]?=some (.cells #[.int .i64 (r'.K:Int),.int .i64 (r'.N:Int),.int .i64 (r'.S:Int),r'.kv,r'.wv,r'.tv,.bool r'.shut] 200 (0,0)))
 (h1:r'.kn=r.kn/\r'.kv=r.kv/\r'.wh=r.wh/\r'.wv=r.wv) (h2:(r'.tk=r.tk/\r'.tv=r.tv)∨(r'.tk=[]/\r'.tv=.slice none 0 0)):RrAt w' B rb r':=by
 obtain⟨e1,e2,e3,e4⟩:=h1;have hne:∀ {n sz:Nat} {e:TypeId} {v:Value} {xs:List Value},w.ownsRow B e sz v n xs->e≠200->w'.ownsRow B e sz v n xs:=fun ho he=>own_of_block ho (fun g hg=>hb.block g (ho.lt g hg).2 (fun q=>own_ne ho hg h.blk he q))
 have hby:∀ {b o:Nat} {l:List Gf.F},(B<=b/\(∃ cs,w.heap[b]?=some (.cells cs 5 (0,0)))/\Bs w b o l)->(B<=b/\(∃ cs,w'.heap[b]?=some (.cells cs 5 (0,0)))/\Bs w' b o l):=fun⟨q1,⟨cs,q2⟩,q3⟩=>by
  have he:=hb.block _ (lt_of_block q2) (fun q=>by
   have q4:=h.blk;rw[<- q,q2]at q4;simp only[Option.some.injEq,Obj.cells.injEq]at q4;exact absurd q4.2.1 (by decide))
  exact⟨q1,⟨cs,he.trans q2⟩,bs_block q3 he⟩
 refine⟨h.low,hblk,?_,fun i hi=>?_,fun i hi p hp=>?_,?_,?_,fun t ht=>?_,fun i j hi hj=>?_⟩
 ·rw[e1,e2];exact hne h.kown (by decide)
 ·rw[e1]at hi ⊢;exact hne (h.pown i hi) (by decide)
 ·rw[e1]at hi hp;exact hby (h.rows i hi p hp)
 ·rw[e3,e4];exact hne h.wown (by decide)
 ·rcases h2 with⟨q1,q2⟩|⟨q1,q2⟩
  ·rw[q1,q2];exact hne h.town (by decide)
  ·rw[q1,q2];exact World.ownsRow_nil ..
 ·rcases h2 with⟨q1,_⟩|⟨q1,_⟩
  ·rw[q1]at ht;exact hby (h.objs t ht)
  ·rw[q1]at ht;simp at ht
 ·rw[e1]at hi hj ⊢;exact h.apart i j hi hj
def Rrv.closed(r:Rrv):Rrv:={r with shut:=true}
theorem rclose_any{B rb:Nat}{r:Rrv}{w:World}(h:RrAt w B rb r):
 Calls Tryz.prog 87 #[.pointer (some ⟨rb,0,none⟩)] w fun e w'=>
  (r.shut=true/\e=.returned (.agg #[.int .i64 8,.int .i64 (-1)])/\Below w.heap.size w w')∨(r.shut=false/\e=.returned (.agg #[.int .i64 0,.int .i64 (-1)])/\RrAt w' B rb r.closed/\But (fun b=>b=rb) w w'):=by
 have hE0:=heap_alloc_new w (.cells #[.int .i64 0,.int .i64 0] 139);have hb0:=(Below.refl w.heap.size w).alloc (Nat.le_refl _) (.cells #[.int .i64 0,.int .i64 0] 139);have hrl:=lt_of_block h.blk;go_enter Tryz.func87,Tryz.ntmps87;go_upto_region 1 with fail;generalize w.alloc (.cells #[.int .i64 0,.int .i64 0] 139)=W at *;have hW:=h.above hb0;obtain⟨_,_,_,_,_,_,c6⟩:=hW.cells
 cases hs:r.shut with
 | true=>
  rw[hs]at c6;go_wp2_with fail;refine(plain_err 8 _).mono ?_;rintro e w2 ⟨rfl,hb2⟩;have hE2:=(hb2.block _ (lt_of_block hE0)).trans hE0;obtain⟨y0,y1,f0,f1⟩:=twoE hE2;obtain⟨p1,p2⟩:=putE w2 w.heap.size _ _ (.int .i64 8) (.int .i64 (-1)) _ hE2;obtain⟨q0,q1,_,_⟩:=twoE p1;have hbw2:Below w.heap.size w w2:=hb0.trans (hb2.mono hb0.size);have hfin:Below w.heap.size w _:=hbw2.trans (p2.toBelow hbw2.size (fun k hk q=>by omega));clear c6;go_wp2_with fail;exact bodyPost_ret (v:=.agg #[.int .i64 8,.int .i64 (-1)]) (by simp[results,Tryz.results87,go_sem,q0,q1]) rfl (.inl ⟨by first | trivial|exact hs,rfl,hfin⟩)
 | false=>
  rw[hs]at c6;have f6:W.frozen? ⟨rb,6,none⟩=false:=frozen_of_row W rb 6 _ _ hW.blk;have h1:=heap_setCell_same W rb 6 _ _ (.bool true) hW.blk;have hb1:=But.setCell (S:=fun b=>b=rb) (But.refl _ W) (p:=⟨rb,6,none⟩) (.inl rfl) (.bool true);have hR1:RrAt (W.setCell ⟨rb,6,none⟩ (.bool true)) B rb r.closed:=hW.put (r':=r.closed) hb1 h1 ⟨rfl,rfl,rfl,rfl⟩ (.inl ⟨rfl,rfl⟩);have hE1:=(hb1.block w.heap.size (lt_of_block hE0) (by omega)).trans hE0;have hbu1:But (fun b=>b=rb) w (W.setCell ⟨rb,6,none⟩ (.bool true)):=(Below.but hb0 (fun b=>b=rb) (fun i h1 h2=>absurd h1 h2)).trans hb1;go_upto_region 4 with fail;generalize W.setCell ⟨rb,6,none⟩ (.bool true)=W1 at *;clear c6 f6 h1 hb1;go_wp2_with fail;refine(none_err _).mono ?_;rintro e w2 ⟨rfl,hb2⟩;have hE2:=(hb2.block _ (lt_of_block hE1)).trans hE1;obtain⟨y0,y1,f0,f1⟩:=twoE hE2;obtain⟨p1,p2⟩:=putE w2 w.heap.size _ _ (.int .i64 0) (.int .i64 (-1)) _ hE2;obtain⟨q0,q1,_,_⟩:=twoE p1;have hR2:=hR1.above hb2
  have hfin:RrAt ((w2.setCell ⟨w.heap.size,0,none⟩ (.int .i64 0)).setCell ⟨w.heap.size,1,none⟩ (.int .i64 (-1))) B rb r.closed:=hR2.kept (fun b q=>p2.block b (hR2.foot_lt q).2 (fun z=>by
   rw[z]at q;have q':r.foot rb w.heap.size:=q;have:=(h.foot_lt q').2;omega))
  have hbu2:But (fun b=>b=rb) w ((w2.setCell ⟨w.heap.size,0,none⟩ (.int .i64 0)).setCell ⟨w.heap.size,1,none⟩ (.int .i64 (-1))):=by
   have q1:=hbu1.trans (Below.but hb2 (fun b=>b=rb) (fun i h1 h2=>absurd h1 h2));exact⟨p2.os.trans q1.os,p2.tape.trans q1.tape,p2.output.trans q1.output,Nat.le_trans q1.size p2.size,fun k hk hn=>(p2.block k (Nat.lt_of_lt_of_le hk q1.size) (by omega)).trans (q1.block k hk hn)⟩
  go_wp2_with fail;exact bodyPost_ret (v:=.agg #[.int .i64 0,.int .i64 (-1)]) (by simp[results,Tryz.results87,go_sem,q0,q1]) rfl (.inr ⟨by first | trivial|exact hs,rfl,hfin,hbu2⟩)
def Rrv.told(r:Rrv):Rrv:={r with tk:=[],tv:=.slice none 0 0}
theorem rtakeAll_any{B rb:Nat}{r:Rrv}{w:World}(h:RrAt w B rb r):
 Calls Tryz.prog 57 #[.pointer (some ⟨rb,0,none⟩)] w fun e w'=>
  (r.shut=true/\e=.returned (.tuple #[.slice none 0 0,.agg #[.int .i64 8,.int .i64 (-1)]])/\Below w.heap.size w w')∨(r.shut=false/\e=.returned (.tuple #[r.tv,.agg #[.int .i64 0,.int .i64 (-1)]])/\RrAt w' B rb r.told/\But (fun b=>b=rb) w w'):=by
 have hE0:=heap_alloc_new w (.cells #[.int .i64 0,.int .i64 0] 139);have hb0:=(Below.refl w.heap.size w).alloc (Nat.le_refl _) (.cells #[.int .i64 0,.int .i64 0] 139);have hrl:=lt_of_block h.blk;obtain⟨ta,tc,htv,_⟩:=own_form2 h.town;have HTV:Hid (r.tv=.slice ta r.tk.length tc):=htv;go_enter Tryz.func57,Tryz.ntmps57;go_upto_region 1 with fail;generalize w.alloc (.cells #[.int .i64 0,.int .i64 0] 139)=W at *;have hW:=h.above hb0;obtain⟨_,_,_,_,_,c5,c6⟩:=hW.cells;rw[htv]at c5;clear htv
 cases hs:r.shut with
 | true=>
  rw[hs]at c6;go_wp2_with fail;refine(plain_err 8 _).mono ?_;rintro e w2 ⟨rfl,hb2⟩;have hE2:=(hb2.block _ (lt_of_block hE0)).trans hE0;obtain⟨y0,y1,f0,f1⟩:=twoE hE2;obtain⟨p1,p2⟩:=putE w2 w.heap.size _ _ (.int .i64 8) (.int .i64 (-1)) _ hE2;obtain⟨q0,q1,_,_⟩:=twoE p1;have hbw2:Below w.heap.size w w2:=hb0.trans (hb2.mono hb0.size);have hfin:Below w.heap.size w _:=hbw2.trans (p2.toBelow hbw2.size (fun k hk q=>by omega));clear c6 c5;go_wp2_with fail;exact bodyPost_ret (v:=.tuple #[.slice none 0 0,.agg #[.int .i64 8,.int .i64 (-1)]]) (by simp[results,Tryz.results57,go_sem,q0,q1]) rfl (.inl ⟨by first | trivial|exact hs,rfl,hfin⟩)
 | false=>
  rw[hs]at c6;have f5:W.frozen? ⟨rb,5,none⟩=false:=frozen_of_row W rb 5 _ _ hW.blk;have h1:=heap_setCell_same W rb 5 _ _ (.slice none 0 0) hW.blk;have hb1:=But.setCell (S:=fun b=>b=rb) (But.refl _ W) (p:=⟨rb,5,none⟩) (.inl rfl) (.slice none 0 0);have hR1:RrAt (W.setCell ⟨rb,5,none⟩ (.slice none 0 0)) B rb r.told:=hW.put (r':=r.told) hb1 h1 ⟨rfl,rfl,rfl,rfl⟩ (.inr ⟨rfl,rfl⟩);have hE1:=(hb1.block w.heap.size (lt_of_block hE0) (by omega)).trans hE0;have hbu1:But (fun b=>b=rb) w (W.setCell ⟨rb,5,none⟩ (.slice none 0 0)):=(Below.but hb0 (fun b=>b=rb) (fun i h1 h2=>absurd h1 h2)).trans hb1;go_upto_region 5 with fail;generalize W.setCell ⟨rb,5,none⟩ (.slice none 0 0)=W1 at *;clear c6 c5 f5 h1 hb1;go_wp2_with fail;refine(none_err _).mono ?_;rintro e w2 ⟨rfl,hb2⟩;have hE2:=(hb2.block _ (lt_of_block hE1)).trans hE1;obtain⟨y0,y1,f0,f1⟩:=twoE hE2;obtain⟨p1,p2⟩:=putE w2 w.heap.size _ _ (.int .i64 0) (.int .i64 (-1)) _ hE2;obtain⟨q0,q1,_,_⟩:=twoE p1;have hR2:=hR1.above hb2
  have hfin:RrAt ((w2.setCell ⟨w.heap.size,0,none⟩ (.int .i64 0)).setCell ⟨w.heap.size,1,none⟩ (.int .i64 (-1))) B rb r.told:=hR2.kept (fun b q=>p2.block b (hR2.foot_lt q).2 (fun z=>by
   rw[z]at q
   have q':r.foot rb w.heap.size:=by
    rcases q with q|q|q|q|⟨t,ht,_⟩|q
    ·exact .inl q
    ·exact .inr (.inl q)
    ·exact .inr (.inr (.inl q))
    ·simp[Rrv.told,Value.ownBlock]at q
    ·simp[Rrv.told]at ht
    ·exact .inr (.inr (.inr (.inr (.inr q))))
   have:=(h.foot_lt q').2;omega))
  have hbu2:But (fun b=>b=rb) w ((w2.setCell ⟨w.heap.size,0,none⟩ (.int .i64 0)).setCell ⟨w.heap.size,1,none⟩ (.int .i64 (-1))):=by
   have q1:=hbu1.trans (Below.but hb2 (fun b=>b=rb) (fun i h1 h2=>absurd h1 h2));exact⟨p2.os.trans q1.os,p2.tape.trans q1.tape,p2.output.trans q1.output,Nat.le_trans q1.size p2.size,fun k hk hn=>(p2.block k (Nat.lt_of_lt_of_le hk q1.size) (by omega)).trans (q1.block k hk hn)⟩
  go_wp2_with fail;exact bodyPost_ret (v:=.tuple #[.slice ta r.tk.length tc,.agg #[.int .i64 0,.int .i64 (-1)]]) (by simp[results,Tryz.results57,go_sem,q0,q1]) rfl (.inr ⟨by first | trivial|exact hs,by rw[HTV.out],hfin,hbu2⟩)
def cntP(ps:List Pk)(b:Nat):Nat->Nat
 | 0=>0
 | i+1=>cntP ps b i+(if(pkat ps i).blk=b then 1 else 0)
def hasP(ps:List Pk)(b:Nat)(pl:Int):Nat->Bool
 | 0=>false
 | i+1=>hasP ps b pl i || (decide ((pkat ps i).blk=b) && decide (((pkat ps i).plc:Int)=pl))
theorem cntP_le(ps:List Pk)(b:Nat):∀ i,cntP ps b i<=i
 | 0=>Nat.le_refl _
 | i+1=>by rw[cntP];have:=cntP_le ps b i;split<;>omega
theorem pk_cells{w:World}{B n len g c m:Nat}{ps:List Pk}(h:w.ownsRow B 60 7 (.slice (some ⟨g,0,none⟩) m c) m (ps.flatMap (pkCells n len)))(hm:ps.length=m){i:Nat}(hi:i<m):
 w.cell? ⟨g,i*7+3,none⟩=some (.int .i64 ((pkat ps i).blk:Int))/\w.cell? ⟨g,i*7+4,none⟩=some (.int .i64 ((pkat ps i).plc:Int))/\w.cell? ⟨g,i*7+5,none⟩=some (pkat ps i).d.val:=by
 have eadd:∀ j,(⟨g,0,none⟩:Addr).add j=⟨g,j,none⟩:=fun j=>by unfold Addr.add;split<;>simp_all
 have hk:∀ k,k<7->(ps.flatMap (pkCells n len))[i*7+k]?=(pkCells n len (pkat ps i))[k]?:=fun k hk=>by
  rw[flat_get (pkCells n len) 7 (fun _=>rfl) ps i k hk,pkat_some (by omega)];rfl
 have hc:∀ k v,k<7->(pkCells n len (pkat ps i))[k]?=some v->w.cell? ⟨g,i*7+k,none⟩=some v:=fun k v hk' hv=>by
  have:=h.cells (g:=g) rfl (i*7+k) v (by rw[hk k hk'];exact hv)
  rwa [eadd]at this
 exact⟨hc 3 _ (by omega) rfl,hc 4 _ (by omega) rfl,hc 5 _ (by omega) rfl⟩
theorem knows_any{B n len b m:Nat}{pl:Int}{pv:Value}{ps:List Pk}{w:World}(h:w.ownsRow B 60 7 pv m (ps.flatMap (pkCells n len)))(hm:ps.length=m)(hm2:m<=1000)(hb:b<=1000):
 Calls Tryz.prog 95 #[.agg #[.int .i64 n,.int .i64 len,pv],.int .i64 b,.int .i64 pl] w fun e w'=>e=.returned (.tuple #[.int .i64 (cntP ps b m:Int),.bool (hasP ps b pl m)])/\Below w.heap.size w w':=by
 obtain⟨pa,pc,rfl,_⟩:=own_form2 h;have hX:=heap_alloc_new w (.cells #[.int .i64 n,.int .i64 len,.slice pa m pc] 204);have HB0:Hid (Below w.heap.size w (w.alloc (.cells #[.int .i64 n,.int .i64 len,.slice pa m pc] 204))):=(Below.refl _ w).alloc (Nat.le_refl _) _;have hown:=h.alloc (.cells #[.int .i64 n,.int .i64 len,.slice pa m pc] 204);have HM:Hid (ps.length=m):=hm;clear h hm;go_enter Tryz.func95,Tryz.ntmps95;go_upto_region 1 with fail;generalize w.alloc (.cells #[.int .i64 n,.int .i64 len,.slice pa m pc] 204)=W at *;have x2:W.cell? ⟨w.heap.size,2,none⟩=some (.slice pa m pc):=cell_of_row W _ 2 _ _ _ hX;have HOWN:Hid (W.ownsRow B 60 7 (.slice pa m pc) m (ps.flatMap (pkCells n len))):=hown;clear hX hown;go_wp2_with fail
 go_loopw[8,9,10] (fun tn tb ti wr=>∃ i:Nat,i<=m/\ti=.int .i64 i/\tn=.int .i64 (cntP ps b i:Int)/\tb=.bool (hasP ps b pl i)/\wr=W) (fun _ _ ti _=>m - (intOf ti).toNat)
 case atStart=>exact⟨0,by omega,rfl,rfl,rfl,rfl⟩
 case round=>
  obtain⟨i,hi,rfl,rfl,rfl,rfl⟩:=hrel;by_cases hlt:i<m
  ·have hlt1:(i:Int)<(m:Int):=by omega
   have hlt0:(0:Int)<=(i:Int):=by omega
   have ho:=HOWN.out;obtain⟨ga,ca,hv6,hga,hca⟩:=ho.form (by omega);simp only[Value.slice.injEq]at hv6;obtain⟨rfl,-,rfl⟩:=hv6;obtain⟨y3,y4,_⟩:=pk_cells ho HM.out hlt;have hcl:=cntP_le ps b i;have HCN:Hid (cntP ps b (i+1)=cntP ps b i+(if(pkat ps i).blk=b then 1 else 0)):=rfl;have HHP:Hid (hasP ps b pl (i+1)=(hasP ps b pl i || (decide ((pkat ps i).blk=b) && decide (((pkat ps i).plc:Int)=pl)))):=rfl;obtain⟨cn,hcn⟩:∃ x,x=cntP ps b i:=⟨_,rfl⟩;obtain⟨hp,hhp⟩:∃ x,x=hasP ps b pl i:=⟨_,rfl⟩;rw[<- hcn]at HCN hcl ⊢;rw[<- hhp]at HHP ⊢;obtain⟨bk,hbk⟩:∃ x,x=(pkat ps i).blk:=⟨_,rfl⟩;obtain⟨pc',hpc⟩:∃ x,x=(pkat ps i).plc:=⟨_,rfl⟩;rw[<- hbk]at y3 HCN HHP;rw[<- hpc]at y4 HHP;clear ho hcn hhp hbk hpc;by_cases hbb:bk=b
   ·subst hbb
    cases hp with
    | true=>
     go_wp2_with fail
     go_roundw
     case rel=>exact⟨i+1,by omega,by go_num,by rw[HCN.out,if_pos rfl];go_num,by rw[HHP.out];simp,by first | trivial|rfl⟩
     case measure=>simp[intOf];omega
    | false=>
     by_cases hpp:(pc':Int)=pl
     ·subst hpp
      go_wp2_with fail
      go_roundw
      case rel=>exact⟨i+1,by omega,by go_num,by rw[HCN.out,if_pos rfl];go_num,by rw[HHP.out];simp,by first | trivial|rfl⟩
      case measure=>simp[intOf];omega
     ·go_wp2_with fail
      go_roundw
      case rel=>exact⟨i+1,by omega,by go_num,by rw[HCN.out,if_pos rfl];go_num,by rw[HHP.out];simp[hpp],by first | trivial|rfl⟩
      case measure=>simp[intOf];omega
   ·have hbb1:¬((bk:Int)=(b:Int)):=by omega
    go_wp2_with fail
    go_roundw
    case rel=>exact⟨i+1,by omega,by go_num,by rw[HCN.out,if_neg hbb];rfl,by rw[HHP.out];simp[hbb],by first | trivial|rfl⟩
    case measure=>simp[intOf];omega
  ·obtain rfl:i=m:=by omega
   have hlt1:¬(i:Int)<(i:Int):=by omega
   go_wp2_with fail;go_ret2;exact⟨rfl,HB0.out⟩
end Go.Proofs.YtjabhnhejbhgjaaGreatDoor
