import Derived.Test.YtjabhnhejbhgjaaGreatDoorAwakeWalk
import Derived.Test.YtjabhnhejbhgjaaGreatDoorMany8
import Derived.Deep.AppendLies
import Derived.Test.YtjabhnhejbhgjaaGreatDoorMany1
set_option maxRecDepth 100000
set_option maxHeartbeats 8000000
namespace Go.Proofs.YtjabhnhejbhgjaaGreatDoor
open Go.RowKit
theorem own_of_block{w w':World}{B:Nat}{e:TypeId}{sz n:Nat}{v:Value}{xs:List Value}(h:w.ownsRow B e sz v n xs)(hk:∀ g,v.ownBlock=some g->w'.heap[g]?=w.heap[g]?):w'.ownsRow B e sz v n xs:=by
 obtain⟨h1,h2⟩:=h;refine⟨h1,?_⟩;rcases h2 with h2|⟨g,cap,cur,rfl,h3,h4,h5⟩
 ·exact .inl h2
 ·exact .inr ⟨g,cap,cur,rfl,h3,by rw[hk g rfl];exact h4,h5⟩
theorem own_lt{w:World}{B:Nat}{e:TypeId}{sz n:Nat}{v:Value}{xs:List Value}(h:w.ownsRow B e sz v n xs){g:Nat}(hg:v.ownBlock=some g):B<=g/\g<w.heap.size:=h.lt g hg
theorem rat_lt{rows:List Row}{x:Row}{j:Nat}(hj:j<rows.length):rat (rows++[x]) j=rat rows j:=by
 simp[rat,List.getD,List.getElem?_append_left hj]
theorem rat_eq{rows:List Row}{x:Row}:rat (rows++[x]) rows.length=x:=by simp[rat,List.getD]
theorem grown_block{w w':World}{row:Option Nat}(h:w.grownBy w' row){k:Nat}(hk:k<w.heap.size)(hne:row≠some k):w'.heap[k]?=w.heap[k]?:=h.block k hk (fun q=>hne q.symm)
theorem own_form{w:World}{B:Nat}{e:TypeId}{n:Nat}{v:Value}{xs:List Value}(h:w.ownsRow B e 1 v n xs):
 ∃ a c,v=.slice a n c/\(0<n->∃ g,a=some ⟨g,0,none⟩/\n<=c/\B<=g/\g<w.heap.size/\∀ j,j<n->w.cell? ⟨g,j,none⟩=xs[j]?):=by
 have hh:=h;obtain⟨h1,h2⟩:=h;rcases h2 with⟨rfl,rfl⟩|⟨g,cap,cur,rfl,h3,h4,h5,h6⟩
 ·exact⟨none,0,rfl,fun h=>by omega⟩
 ·exact⟨_,cap,rfl,fun _=>⟨g,rfl,h5,h3,(own_lt hh rfl).2,fun j hj=>hh.cellAt j (by omega)⟩⟩
theorem Tryz.info_int:(Tryz.prog.info? 3).map (fun i=>(i.zero,i.size,i.bytes))=some (some (.int .i64 0),1,8):=by kernel_rfl
def encL(l:List Gf.F):List Value:=l.map fun x=>Value.int .u8 (x.toNat:Int)
theorem encL_at{l:List Gf.F}{j:Nat}(hj:j<l.length):(encL l)[j]?=some (.int .u8 ((at_ l j).toNat:Int)):=by
 simp[encL,at_,List.getD,hj]
structure Mat(w:World)(B m:Nat)(v:Value)(k:Nat)(rs:List Row):Prop where
 len:rs.length=k
 own:w.ownsRow B 33 1 v k (rs.map Row.val)
 each:∀ i,i<k->w.ownsRow B 5 1 (.slice (some ⟨(rat rs i).b,0,none⟩) m (rat rs i).c) m (encL (rat rs i).l)/\(rat rs i).l.length=m/\(rat rs i).o=0/\v.ownBlock≠some (rat rs i).b
 apart:∀ i j,i<k->j<k->(rat rs i).b=(rat rs j).b->i=j
theorem Mat.nil(w:World)(B m:Nat):Mat w B m (.slice none 0 0) 0 []:=⟨rfl,World.ownsRow_nil ..,fun i hi=>by omega,fun i j hi=>by omega⟩
theorem Mat.lt{w:World}{B m k:Nat}{v:Value}{rs:List Row}(h:Mat w B m v k rs)(i:Nat)(hi:i<k):B<=(rat rs i).b/\(rat rs i).b<w.heap.size:=own_lt (h.each i hi).1 rfl
theorem Mat.kept{w w':World}{B m k:Nat}{v:Value}{rs:List Row}(h:Mat w B m v k rs)(hk:∀ j,j<w.heap.size->B<=j->(v.ownBlock=some j∨∃ i,i<k/\(rat rs i).b=j)->w'.heap[j]?=w.heap[j]?):Mat w' B m v k rs:=
 ⟨h.len,own_of_block h.own (fun g hg=>hk g (own_lt h.own hg).2 (own_lt h.own hg).1 (.inl hg)),
  fun i hi=>by
   obtain⟨h1,h2⟩:=h.each i hi;refine⟨own_of_block h1 (fun g hg=>?_),h2⟩;have e:(rat rs i).b=g:=by simpa [Value.ownBlock] using hg
   exact hk g (own_lt h1 hg).2 (own_lt h1 hg).1 (.inr ⟨i,hi,e⟩),h.apart⟩
structure Gro(w:World)(B m:Nat)(v:Value)(k:Nat)(rs:List Row)(vr:Value)(q:Nat)(ys:List Gf.F):Prop where
 mat:Mat w B m v k rs
 own:w.ownsRow B 5 1 vr q (encL ys)
 len:ys.length=q
 far:∀ g,vr.ownBlock=some g->v.ownBlock≠some g/\∀ j,j<k->(rat rs j).b≠g
theorem Gro.nil{w:World}{B m k:Nat}{v:Value}{rs:List Row}(h:Mat w B m v k rs):Gro w B m v k rs (.slice none 0 0) 0 []:=⟨h,World.ownsRow_nil ..,rfl,fun g hg=>by cases hg⟩
theorem Gro.step{w w':World}{B m k q g c:Nat}{v vr:Value}{rs:List Row}{ys:List Gf.F}{o:Obj}{x:Gf.F}(h:Gro w B m v k rs vr q ys)
 (hown:w'.ownsRow B 5 1 (.slice (some ⟨g,0,none⟩) (q+1) c) (q+1) (encL ys++[.int .u8 (x.toNat:Int)])) (hgr:(w.alloc o).grownBy w' vr.ownBlock) (hg:vr.ownBlock=some g∨g=w.heap.size+1):
 Gro w' B m v k rs (.slice (some ⟨g,0,none⟩) (q+1) c) (q+1) (ys++[x]):=by
 have keep:∀ j,j<w.heap.size->vr.ownBlock≠some j->w'.heap[j]?=w.heap[j]?:=fun j hj hne=>by
  rw[grown_block hgr (by simp;omega) hne,Below.heap_alloc _ _ _ hj]
 refine⟨h.mat.kept (fun j hj _ hor=>keep j hj (fun e=>?_)),?_,by simp[h.len],?_⟩
 ·rcases hor with hv|⟨i,hi,hb⟩
  ·exact(h.far j e).1 hv
  ·exact(h.far j e).2 i hi hb
 ·have e:encL (ys++[x])=encL ys++[.int .u8 (x.toNat:Int)]:=by simp[encL]
  rw[e];exact hown
 ·intro g' hg'
  have e:g=g':=by simpa [Value.ownBlock] using hg'
  subst e;rcases hg with e|e
  ·exact h.far g e
  ·refine⟨fun q=>?_,fun j hj q=>?_⟩
   ·have:=(own_lt h.mat.own q).2;omega
   ·have:=(h.mat.lt j hj).2;omega
theorem Gro.row{w w':World}{B m k g c gr cr:Nat}{v:Value}{rs:List Row}{ys:List Gf.F}{o:Obj}(h:Gro w B m v k rs (.slice (some ⟨gr,0,none⟩) m cr) m ys)
 (hown:w'.ownsRow B 33 1 (.slice (some ⟨g,0,none⟩) (k+1) c) (k+1) (rs.map Row.val++[.slice (some ⟨gr,0,none⟩) m cr])) (hgr:(w.alloc o).grownBy w' v.ownBlock) (hg:v.ownBlock=some g∨g=w.heap.size+1):
 Mat w' B m (.slice (some ⟨g,0,none⟩) (k+1) c) (k+1) (rs++[⟨gr,0,cr,ys⟩]):=by
 have keep:∀ j,j<w.heap.size->v.ownBlock≠some j->w'.heap[j]?=w.heap[j]?:=fun j hj hne=>by
  rw[grown_block hgr (by simp;omega) hne,Below.heap_alloc _ _ _ hj]
 have hgrlt:gr<w.heap.size:=(own_lt h.own rfl).2;obtain⟨hf1,hf2⟩:=h.far gr rfl
 have far:∀ b,b<w.heap.size->v.ownBlock≠some b->(Value.slice (some ⟨g,0,none⟩) (k+1) c).ownBlock≠some b:=by
  intro b hb h1 q;have e:g=b:=by simpa [Value.ownBlock] using q
  subst e;rcases hg with e|e
  ·exact h1 e
  ·omega
 have hlast:rat (rs++[(⟨gr,0,cr,ys⟩:Row)]) k=⟨gr,0,cr,ys⟩:=by rw[<- h.mat.len];exact rat_eq
 have hold:∀ j,j<k->rat (rs++[(⟨gr,0,cr,ys⟩:Row)]) j=rat rs j:=fun j hj=>rat_lt (by rw[h.mat.len];exact hj)
 refine⟨by simp[h.mat.len],?_,?_,?_⟩
 ·rw[List.map_append]
  have e:[(⟨gr,0,cr,ys⟩:Row)].map Row.val=[.slice (some ⟨gr,0,none⟩) m cr]:=by simp[Row.val,h.len]
  rw[e];exact hown
 ·intro i hi
  by_cases e:i=k
  ·subst e
   rw[hlast]
   exact⟨own_of_block h.own (fun b hb=>by
    have e:gr=b:=by simpa [Value.ownBlock] using hb
    subst e;exact keep gr hgrlt hf1),h.len,rfl,far gr hgrlt hf1⟩
  ·rw[hold i (by omega)]
   obtain⟨h1,h2,h3,h4⟩:=h.mat.each i (by omega);have hlt:=(h.mat.lt i (by omega)).2
   exact⟨own_of_block h1 (fun b hb=>by
    have e:(rat rs i).b=b:=by simpa [Value.ownBlock] using hb
    subst e;exact keep _ hlt h4),h2,h3,far _ hlt h4⟩
 ·intro i j hi hj e
  by_cases e1:i=k
  ·by_cases e2:j=k
   ·omega
   ·rw[e1,hlast,hold j (by omega)]at e
    exact absurd e.symm (hf2 j (by omega))
  ·by_cases e2:j=k
   ·rw[e2,hlast,hold i (by omega)]at e
    exact absurd e (hf2 i (by omega))
   ·rw[hold i (by omega),hold j (by omega)]at e
    exact h.mat.apart i j (by omega) (by omega) e
def setL(rs:List Row)(k:Nat)(l:List Gf.F):List Row:=rs.set k ⟨(rat rs k).b,0,(rat rs k).c,l⟩
theorem setL_same{rs:List Row}{k:Nat}{l:List Gf.F}(hk:k<rs.length):rat (setL rs k l) k=⟨(rat rs k).b,0,(rat rs k).c,l⟩:=by
 simp[rat,setL,List.getD,hk]
theorem setL_other{rs:List Row}{k i:Nat}{l:List Gf.F}(h:i≠k):rat (setL rs k l) i=rat rs i:=by
 simp[rat,setL,List.getD,List.getElem?_set_ne (Ne.symm h)]
theorem setL_length{rs:List Row}{k:Nat}{l:List Gf.F}:(setL rs k l).length=rs.length:=by simp[setL]
theorem setL_val{rs:List Row}{k m:Nat}{l:List Gf.F}(hk:k<rs.length)(ho:(rat rs k).o=0)(h1:(rat rs k).l.length=m)(h2:l.length=m):(setL rs k l).map Row.val=rs.map Row.val:=by
 unfold setL;rw[List.map_set]
 have e:Row.val ⟨(rat rs k).b,0,(rat rs k).c,l⟩=(rs.map Row.val)[k]'(by simpa using hk):=by
  have:rat rs k=rs[k]:=by simp[rat,List.getD,hk]
  simp only[List.getElem_map,<- this,Row.val,ho,h1,h2]
 rw[e,List.set_getElem_self]
theorem Mat.store{w:World}{B m n g c:Nat}{rs:List Row}(h:Mat w B m (.slice (some ⟨g,0,none⟩) n c) n rs)(i j:Nat)(hi:i<n)(x:Gf.F):
 Mat (w.setCell ⟨(rat rs i).b,j,none⟩ (.int .u8 (x.toNat:Int))) B m (.slice (some ⟨g,0,none⟩) n c) n (setL rs i ((rat rs i).l.set j x)):=by
 obtain⟨h1,h2,h3,h4⟩:=h.each i hi;have hne:g≠(rat rs i).b:=fun q=>h4 (by simp[Value.ownBlock,q])
 have hil:i<rs.length:=by rw[h.len];exact hi
 refine⟨by rw[setL_length];exact h.len,?_,?_,?_⟩
 ·rw[setL_val hil h3 h2 (by simp[h2])]
  refine own_of_block h.own (fun b hb=>?_);have e:g=b:=by simpa [Value.ownBlock] using hb
  subst e;exact heap_setCell_other _ _ _ _ hne
 ·intro t ht
  by_cases e:t=i
  ·subst e
   rw[setL_same hil];refine⟨?_,by simp[h2],rfl,h4⟩;have:=(h1.stored j (.int .u8 (x.toNat:Int))).1;have e2:(encL (rat rs t).l).set j (.int .u8 (x.toNat:Int))=encL ((rat rs t).l.set j x):=by simp[encL,List.map_set]
   rw[e2]at this;exact this
  ·rw[setL_other e]
   obtain⟨k1,k2,k3,k4⟩:=h.each t ht;refine⟨own_of_block k1 (fun b hb=>?_),k2,k3,k4⟩;have e2:(rat rs t).b=b:=by simpa [Value.ownBlock] using hb
   subst e2;exact heap_setCell_other _ _ _ _ (fun q=>e (h.apart t i ht hi q))
 ·intro s t hs ht e
  have hb:∀ u,u<n->(rat (setL rs i ((rat rs i).l.set j x)) u).b=(rat rs u).b:=by
   intro u hu;by_cases q:u=i
   ·subst q;rw[setL_same hil]
   ·rw[setL_other q]
  rw[hb s hs,hb t ht]at e;exact h.apart s t hs ht e
theorem Mat.cell{w:World}{B m n g c:Nat}{rs:List Row}(h:Mat w B m (.slice (some ⟨g,0,none⟩) n c) n rs)(i:Nat)(hi:i<n):w.cell? ⟨g,i,none⟩=some (.slice (some ⟨(rat rs i).b,0,none⟩) m (rat rs i).c):=by
 rw[h.own.cellAt i (by omega)];have hil:i<rs.length:=by rw[h.len];exact hi
 obtain⟨_,h2,h3,_⟩:=h.each i hi;have:rat rs i=rs[i]:=by simp[rat,List.getD,hil]
 rw[List.getElem?_map,List.getElem?_eq_getElem hil,<- this];simp[Row.val,h2,h3]
theorem Mat.byte{w:World}{B m n g c:Nat}{rs:List Row}(h:Mat w B m (.slice (some ⟨g,0,none⟩) n c) n rs)(i j:Nat)(hi:i<n)(hj:j<m):w.cell? ⟨(rat rs i).b,j,none⟩=some (.int .u8 ((at_ (rat rs i).l j).toNat:Int)):=by
 obtain⟨h1,h2,_⟩:=h.each i hi;rw[h1.cellAt j (by omega),encL_at (by omega)]
theorem Mat.frozen{w:World}{B m n g c:Nat}{rs:List Row}(h:Mat w B m (.slice (some ⟨g,0,none⟩) n c) n rs)(i j:Nat)(hi:i<n):w.frozen? ⟨(rat rs i).b,j,none⟩=false:=(h.each i hi).1.frozenAt j
theorem Mat.frozenG{w:World}{B m n g c:Nat}{rs:List Row}(h:Mat w B m (.slice (some ⟨g,0,none⟩) n c) n rs)(j:Nat):w.frozen? ⟨g,j,none⟩=false:=h.own.frozenAt j
theorem Mat.drew{w:World}{B m n:Nat}{v:Value}{rs:List Row}(h:Mat w B m v n rs):Mat w.drew B m v n rs:=h.kept (fun _ _ _ _=>rfl)
def swapL(rs:List Row)(i k:Nat):List Row:=(rs.set i (rat rs k)).set k (rat rs i)
theorem swapL_at{rs:List Row}{i k t:Nat}(hi:i<rs.length)(hk:k<rs.length)(_ht:t<rs.length):rat (swapL rs i k) t=rat rs (if t=k then i else if t=i then k else t):=by
 unfold swapL;by_cases e1:t=k
 ·subst e1
  rw[if_pos rfl];simp[rat,List.getD,hi,hk]
 ·rw[if_neg e1]
  by_cases e2:t=i
  ·subst e2
   rw[if_pos rfl];simp only[rat,List.getD_eq_getElem?_getD];rw[List.getElem?_set_ne (Ne.symm e1),List.getElem?_set_self hi];rfl
  ·rw[if_neg e2]
   simp[rat,List.getD,List.getElem?_set_ne (Ne.symm e1),List.getElem?_set_ne (Ne.symm e2)]
theorem Mat.swap{w:World}{B m n g c:Nat}{rs:List Row}(h:Mat w B m (.slice (some ⟨g,0,none⟩) n c) n rs)(i k:Nat)(hi:i<n)(hk:k<n):
 Mat ((w.setCell ⟨g,i,none⟩ (.slice (some ⟨(rat rs k).b,0,none⟩) m (rat rs k).c)).setCell ⟨g,k,none⟩ (.slice (some ⟨(rat rs i).b,0,none⟩) m (rat rs i).c)) B m (.slice (some ⟨g,0,none⟩) n c) n (swapL rs i k):=by
 have hil:i<rs.length:=by rw[h.len];exact hi
 have hkl:k<rs.length:=by rw[h.len];exact hk
 have hlt:∀ t,t<n->(if t=k then i else if t=i then k else t)<n:=fun t ht=>by split;exact hi;split;exact hk;exact ht
 have hval:∀ t,t<n->(rat rs t).val=.slice (some ⟨(rat rs t).b,0,none⟩) m (rat rs t).c:=fun t ht=>by
  obtain⟨_,h2,h3,_⟩:=h.each t ht;simp[Row.val,h2,h3]
 refine⟨by simp[swapL,h.len],?_,?_,?_⟩
 ·have:=((h.own.stored i (.slice (some ⟨(rat rs k).b,0,none⟩) m (rat rs k).c)).1.stored k (.slice (some ⟨(rat rs i).b,0,none⟩) m (rat rs i).c)).1
  rw[<- hval k hk,<- hval i hi]at this ⊢;have e:(swapL rs i k).map Row.val=((rs.map Row.val).set i (rat rs k).val).set k (rat rs i).val:=by simp[swapL,List.map_set]
  rw[e];exact this
 ·intro t ht
  rw[swapL_at hil hkl (by rw[h.len];exact ht)];obtain⟨h1,h2,h3,h4⟩:=h.each _ (hlt t ht);refine⟨own_of_block h1 (fun b hb=>?_),h2,h3,h4⟩;have e:(rat rs (if t=k then i else if t=i then k else t)).b=b:=by simpa [Value.ownBlock] using hb
  have hne:b≠g:=fun q=>h4 (by rw[e,q];rfl)
  rw[heap_setCell_other _ _ _ _ hne,heap_setCell_other _ _ _ _ hne]
 ·intro s t hs ht e
  rw[swapL_at hil hkl (by rw[h.len];exact hs),swapL_at hil hkl (by rw[h.len];exact ht)]at e;have:=h.apart _ _ (hlt s hs) (hlt t ht) e;split at this<;>split at this<;>(try split at this)<;>(try split at this)<;>omega
def mx(rs:List Row):Gf.Mx:=fun i j=>at_ (rat rs i).l j
theorem at_set(l:List Gf.F)(j t:Nat)(x:Gf.F)(hj:j<l.length):at_ (l.set j x) t=if t=j then x else at_ l t:=by
 unfold at_;rw[List.getD_eq_getElem?_getD,List.getD_eq_getElem?_getD];by_cases e:t=j
 ·subst e;rw[if_pos rfl,List.getElem?_set_self hj];rfl
 ·rw[if_neg e,List.getElem?_set_ne (Ne.symm e)]
theorem mx_store{rs:List Row}{k j:Nat}{x:Gf.F}(hk:k<rs.length)(hj:j<(rat rs k).l.length)(a b:Nat):
 mx (setL rs k ((rat rs k).l.set j x)) a b=if a=k/\b=j then x else mx rs a b:=by
 unfold mx;by_cases e:a=k
 ·subst e
  rw[setL_same hk,at_set _ _ _ _ hj];by_cases e2:b=j
  ·rw[if_pos e2,if_pos ⟨rfl,e2⟩]
  ·rw[if_neg e2,if_neg (fun h=>e2 h.2)]
 ·rw[setL_other e,if_neg (fun h=>e h.1)]
theorem mx_swap{rs:List Row}{i k:Nat}(hi:i<rs.length)(hk:k<rs.length)(a:Nat)(ha:a<rs.length)(b:Nat):mx (swapL rs i k) a b=mx rs (if a=k then i else if a=i then k else a) b:=by
 unfold mx;rw[swapL_at hi hk ha]
theorem unit_step{m0 m1 m2 m3:Gf.Mx}{n k q:Nat}(hk:k<n)(hq:q<n)(hkq:k<=q)(hU:Gf.Unit m0 n k)(hne:m0 q k≠0)
 (e1:∀ i,i<n->∀ j,j<=n->m1 i j=m0 (if i=k then q else if i=q then k else i) j)
 (e2:∀ i,i<n->∀ j,j<=n->m2 i j=if i=k then Gf.mul (m1 k j) (Gf.inv (m0 q k)) else m1 i j)
 (e3:∀ i,i<n->∀ j,j<=n->m3 i j=if i=k then m2 k j else m2 i j ^^^ Gf.mul (m2 i k) (m2 k j)):Gf.Unit m3 n (k+1):=by
 have h1:∀ j,j<k->∀ i,i<n->m1 i j=if i=j then 1 else 0:=by
  intro j hj i hi;rw[e1 i hi j (by omega)];by_cases a:i=k
  ·rw[if_pos a,hU j hj q hq,if_neg (by omega),if_neg (by omega)]
  ·rw[if_neg a]
   by_cases b:i=q
   ·rw[if_pos b,hU j hj k hk,if_neg (by omega),if_neg (by omega)]
   ·rw[if_neg b,hU j hj i hi]
 have h2:∀ j,j<k->∀ i,i<n->m2 i j=if i=j then 1 else 0:=by
  intro j hj i hi;rw[e2 i hi j (by omega)];by_cases a:i=k
  ·rw[if_pos a,h1 j hj k hk,if_neg (by omega),if_neg (by omega),Gf.zero_mul]
  ·rw[if_neg a,h1 j hj i hi]
 have hkk:m2 k k=1:=by
  rw[e2 k hk k (by omega),if_pos rfl,e1 k hk k (by omega),if_pos rfl,Gf.mul_inv _ hne]
 intro j hj i hi;rw[e3 i hi j (by omega)];by_cases a:i=k
 ·rw[if_pos a]
  by_cases b:j=k
  ·rw[b,hkk,if_pos a]
  ·rw[h2 j (by omega) k hk,a]
 ·rw[if_neg a]
  by_cases b:j=k
  ·rw[b,hkk,Gf.mul_one,BitVec.xor_self,if_neg a];rfl
  ·rw[h2 j (by omega) i hi,h2 j (by omega) k hk,if_neg (show ¬ k=j by omega),Gf.mul_zero];exact BitVec.xor_zero
theorem solves_step{m0 m1 m2 m3:Gf.Mx}{n k q:Nat}{c:Nat->Gf.F}{o:Gf.F}(hk:k<n)(hq:q<n)(hS:Gf.Solves m0 n c)(hne:m0 q k≠0)(ho:Gf.inv (m0 q k)=o)
 (e1:∀ i,i<n->∀ j,j<=n->m1 i j=m0 (if i=k then q else if i=q then k else i) j)
 (e2:∀ i,i<n->∀ j,j<=n->m2 i j=if i=k then Gf.mul (m1 k j) o else m1 i j)
 (e3:∀ i,i<n->∀ j,j<=n->m3 i j=if i=k then m2 k j else m2 i j ^^^ Gf.mul (m2 i k) (m2 k j)):Gf.Solves m3 n c:=by
 have ho0:o≠0:=by
  intro h;have:=Gf.mul_inv _ hne;rw[ho,h,Gf.mul_zero]at this;exact absurd this (by decide)
 exact((hS.swap hk hq e1).scale hk ho0 (fun i hi j hj=>by rw[e2 i hi j hj];split;exact Gf.mul_comm _ _;rfl)).clear hk e3
theorem at_snoc(l:List Gf.F)(x:Gf.F)(j:Nat):at_ (l++[x]) j=if j<l.length then at_ l j else if j=l.length then x else 0:=by
 unfold at_;rw[List.getD_eq_getElem?_getD,List.getD_eq_getElem?_getD];by_cases h:j<l.length
 ·rw[if_pos h,List.getElem?_append_left h]
 ·rw[if_neg h,List.getElem?_append_right (by omega)]
  by_cases e:j=l.length
  ·rw[if_pos e,e];simp
  ·rw[if_neg e,List.getElem?_eq_none (by simp;omega)];rfl
end Go.Proofs.YtjabhnhejbhgjaaGreatDoor
