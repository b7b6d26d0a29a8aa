import Derived.Test.YtjabhnhejbhgjaaGreatDoorMany32
import Derived.Test.YtjabhnhejbhgjaaGreatDoorMany14
import Derived.Test.YtjabhnhejbhgjaaGreatDoorMany28
import Derived.Test.YtjabhnhejbhgjaaGreatDoorMany24
import Derived.Test.YtjabhnhejbhgjaaGreatDoorMany29
import Derived.Test.YtjabhnhejbhgjaaGreatDoorMany31
set_option maxRecDepth 100000
set_option maxHeartbeats 8000000
namespace Go.Proofs.YtjabhnhejbhgjaaGreatDoor
open Go.RowKit
def Rcv.out(r:Rcv)(b:Nat):Prop:=r.uv.ownBlock=some b∨∃ u ∈ r.un,b=u.g
theorem RcAt.toldApart{w:World}{B rb b:Nat}{r:Rcv}(h:RcAt w B rb r)(hf:r.told.foot rb b):¬ r.out b:=by
 intro ho
 have hob:(∃ cs t,w.heap[b]?=some (.cells cs t (0,0))/\(t=136∨t=5)):=by
  rcases ho with ho|⟨u,hu,rfl⟩
  ·obtain⟨cs,hc⟩:=own_block h.own ho
   exact⟨cs,_,hc,.inl rfl⟩
  ·obtain⟨_,⟨cs,hc⟩,_⟩:=h.objs u hu
   exact⟨cs,_,hc,.inr rfl⟩
 obtain⟨cs,t,hc,ht⟩:=hob;rcases hf with q|q|q|q|⟨u,hu,_⟩|⟨m,kb,k,hm,hk,q⟩
 ·refine ne_typ hc (q ▸ h.blk) ?_ rfl
  rcases ht with e|e<;>rw[e]<;>decide
 ·have:=h.chan
  change b=r.d at q
  rw[<- q,hc]at this;cases this
 ·obtain⟨n,D,⟨es,clock,hm,_⟩,_⟩:=h.map
  change b=r.mb at q
  rw[<- q,hc]at hm;cases hm
 ·simp[Rcv.told,Value.ownBlock]at q
 ·simp[Rcv.told]at hu
 ·have hk':r.kf m=some (kb,k):=hk
  rcases ho with ho|⟨u,hu,rfl⟩
  ·obtain⟨cs,hc⟩:=own_block h.own ho
   exact(h.known m kb k hm hk').notTy hc q
  ·exact h.apartU u hu m kb k hm hk' q
theorem Rcv.out_foot{r:Rcv}{rb b:Nat}(h:r.out b):r.foot rb b:=by
 rcases h with h|h
 ·exact .inr (.inr (.inr (.inl h)))
 ·exact .inr (.inr (.inr (.inr (.inl h))))
theorem Rcv.told_foot{r:Rcv}{rb b:Nat}(h:r.told.foot rb b):r.foot rb b:=by
 rcases h with q|q|q|q|⟨u,hu,_⟩|q
 ·exact .inl q
 ·exact .inr (.inl q)
 ·exact .inr (.inr (.inl q))
 ·simp[Rcv.told,Value.ownBlock]at q
 ·simp[Rcv.told]at hu
 ·exact .inr (.inr (.inr (.inr (.inr q))))
theorem Rrv.told_foot{r:Rrv}{rb b:Nat}(h:r.told.foot rb b):r.foot rb b:=by
 rcases h with q|q|q|q|⟨u,hu,_⟩|q
 ·exact .inl q
 ·exact .inr (.inl q)
 ·exact .inr (.inr (.inl q))
 ·simp[Rrv.told,Value.ownBlock]at q
 ·simp[Rrv.told]at hu
 ·exact .inr (.inr (.inr (.inr (.inr q))))
structure Lay(w:World)(B:Nat)(uv:Value)(us:List Un):Prop where
 row:w.ownsRow B 136 2 uv us.length (flat2 (unVals us))
 each:∀ u ∈ us,B<=u.g/\(∃ cs,w.heap[u.g]?=some (.cells cs 5 (0,0)))/\Bs w u.g 0 u.l
theorem Lay.kept{w w':World}{B:Nat}{uv:Value}{us:List Un}(h:Lay w B uv us)(hk:∀ b,(uv.ownBlock=some b∨∃ u ∈ us,b=u.g)->w'.heap[b]?=w.heap[b]?):Lay w' B uv us:=
 ⟨own_of_block h.row (fun g hg=>hk g (.inl hg)),fun u hu=>by
  obtain⟨h1,⟨cs,h2⟩,h3⟩:=h.each u hu;have he:=hk u.g (.inr ⟨u,hu,rfl⟩);exact⟨h1,⟨cs,he.trans h2⟩,bs_block h3 he⟩⟩
theorem Lay.lt{w:World}{B b:Nat}{uv:Value}{us:List Un}(h:Lay w B uv us)(hb:uv.ownBlock=some b∨∃ u ∈ us,b=u.g):b<w.heap.size:=by
 rcases hb with hb|⟨u,hu,rfl⟩
 ·exact(h.row.lt b hb).2
 ·obtain⟨_,⟨cs,h2⟩,_⟩:=h.each u hu
  exact lt_of_block h2
theorem Lay.above{w w':World}{B:Nat}{uv:Value}{us:List Un}(h:Lay w B uv us)(hb:Below w.heap.size w w'):Lay w' B uv us:=h.kept (fun b q=>hb.block b (h.lt q))
section
variable {A:Nat->Addr}{B0:Nat}{own:Nat->Nat}{w w':World}{hb:Nat}{hs:HS}{es:List Ent}{ps:List Pr}{qs:List Rp}{os:List Ent}
theorem XJ.tells(h:XJ A B0 own w hb hs es ps qs os){i:Nat}(hi:i<qs.length)(hbu:But (fun b=>b=(rpat qs i).rb) w w')(hR:RcAt w' (hb+1) (rpat qs i).rb (rpat qs i).r.told)(ok:(rpat qs i).r.told.Ok):
 ∃ own',XJ A B0 own' w' hb hs es ps (qs.set i {rpat qs i with r:=(rpat qs i).r.told}) os/\Fr own w own' w'/\(∀ b,(rpat qs i).r.uv.ownBlock=some b->own' b=5)/\(∀ u ∈(rpat qs i).r.un,own' u.g=0)/\Lay w' (hb+1) (rpat qs i).r.uv (rpat qs i).r.un/\(∀ e ∈ es,∀ u ∈(rpat qs i).r.un,e.v.ownBlock≠some u.g)/\∀ e ∈ os,∀ g,(rpat qs i).r.uv.ownBlock=some g->e.v.ownBlock≠some g:=by
 classical
 have hRJ:=h.rest.now;obtain⟨hRc,_⟩:=hRJ.rcv i hi;have hlay0:Lay w (hb+1) (rpat qs i).r.uv (rpat qs i).r.un:=⟨hRc.own,hRc.objs⟩;have hnrb:∀ b,(rpat qs i).r.out b->b≠(rpat qs i).rb:=fun b ho e=>hRc.toldApart (b:=b) (.inl e) ho
 have hlay:Lay w' (hb+1) (rpat qs i).r.uv (rpat qs i).r.un:=hlay0.kept (fun b q=>hbu.block b (hlay0.lt q) (fun e=>hnrb b q e));obtain⟨own',hown'⟩:∃ own':Nat->Nat,own'=fun b=>if(rpat qs i).r.uv.ownBlock=some b then 5 else if ∃ u ∈(rpat qs i).r.un,b=u.g then 0 else ownN own w.heap.size 1 b:=⟨_,rfl⟩
 have h5:∀ b,(rpat qs i).r.uv.ownBlock=some b->own' b=5:=fun b hb'=>by rw[hown'];exact if_pos hb'
 have h0:∀ u ∈(rpat qs i).r.un,own' u.g=0:=fun u hu=>by
  rw[hown'];show(if _ then _ else _)=_;rw[if_neg,if_pos ⟨u,hu,rfl⟩];intro e;obtain⟨cs,hc⟩:=own_block hRc.own e;obtain⟨_,⟨cs',hc'⟩,_⟩:=hRc.objs u hu;exact ne_typ hc hc' (by decide) rfl
 have hno:∀ b,b<w.heap.size->¬(rpat qs i).r.out b->own' b=own b:=fun b hlt hn=>by
  rw[hown'];show(if _ then _ else _)=_;rw[if_neg (fun e=>hn (.inl e)),if_neg (fun e=>hn (.inr e)),ownN_old hlt]
 have hout:∀ b,(rpat qs i).r.out b->own b=4*i+8:=fun b q=>hRJ.oP i b hi (Rcv.out_foot q)
 have hnot:∀ b,own b≠4*i+8->¬(rpat qs i).r.out b:=fun b hne q=>hne (hout b q)
 have hSrb:own (rpat qs i).rb=4*i+8:=hRJ.oP i _ hi (.inl rfl);have hnS:∀ b,own b≠4*i+8->b≠(rpat qs i).rb:=fun b hne e=>hne (by rw[e];exact hSrb)
 have hl:(qs.set i {rpat qs i with r:=(rpat qs i).r.told}).length=qs.length:=by simp
 have hRJ':RJ hb (qs.set i {rpat qs i with r:=(rpat qs i).r.told}) os hs.rv hs.objs hs.bmarks own' w':=by
  refine⟨?_,fun j hj=>?_,fun j hj=>?_,hRJ.obs.but hbu (fun g hg=>hnS g (by rw[hRJ.oO g hg];omega)) (fun g hg=>hnS g (by rw[hRJ.oM g hg];omega)) (fun e he g hg=>hnS g (by rw[hRJ.oE e he g hg];omega)),
   fun b hg=>by rw[hno b (hRJ.rown.lt b hg).2 (hnot b (by rw[hRJ.oV b hg];omega))];exact hRJ.oV b hg,fun j b hj q=>?_,fun j b hj q=>?_,fun b hg=>by rw[hno b (hRJ.obs.own.lt b hg).2 (hnot b (by rw[hRJ.oO b hg];omega))];exact hRJ.oO b hg,fun b hg=>by rw[hno b (hRJ.obs.marks.lt b hg).2 (hnot b (by rw[hRJ.oM b hg];omega))];exact hRJ.oM b hg,fun e he b hg=>by rw[hno b (hRJ.ltE he hg) (hnot b (by rw[hRJ.oE e he b hg];omega))];exact hRJ.oE e he b hg⟩
  ·rw[hl,rpVals_set (p:={rpat qs i with r:=(rpat qs i).r.told}) hi rfl rfl]
   exact hbu.own hRJ.rown (fun g hg=>hnS g (by rw[hRJ.oV g hg];omega))
  ·rw[hl]at hj
   rw[rpat_set hi];split
   ·rename_i e;subst e;exact⟨hR,ok⟩
   ·rename_i e
    exact⟨(hRJ.rcv j hj).1.kept (fun b q=>hbu.block b (hRJ.ltP hj q) (hnS b (by rw[hRJ.oP j b hj q];omega))),(hRJ.rcv j hj).2⟩
  ·rw[hl]at hj
   have hk:=(hRJ.rrv j hj).kept (fun b q=>hbu.block b (hRJ.ltD hj q) (hnS b (by rw[hRJ.oD j b hj q];omega)));rw[rpat_set hi];split
   ·rename_i e;subst e;exact hk
   ·exact hk
  ·rw[hl]at hj
   rw[rpat_set hi]at q;split at q
   ·rename_i e;subst e
    have q':=Rcv.told_foot q;rw[hno b (hRJ.ltP hi q') (hRc.toldApart q)];exact hRJ.oP i b hi q'
   ·rename_i e
    rw[hno b (hRJ.ltP hj q) (hnot b (by rw[hRJ.oP j b hj q];omega))];exact hRJ.oP j b hj q
  ·rw[hl]at hj
   have q':(rpat qs j).q.foot (rpat qs j).qb b:=by
    rw[rpat_set hi]at q;split at q
    ·rename_i e;subst e;exact q
    ·exact q
   rw[hno b (hRJ.ltD hj q') (hnot b (by rw[hRJ.oD j b hj q'];omega))];exact hRJ.oD j b hj q'
 have hx8:xtra (4*i+8):=⟨by omega,by omega⟩;have hHb:hb≠(rpat qs i).rb:=hnS hb (by rw[h.oH];omega);refine⟨own',WJ.stepX (R':=RJ hb (qs.set i {rpat qs i with r:=(rpat qs i).r.told}) os) h hbu (fun b _ q=>.inr (by rw[q,hSrb];exact hx8)) (fun b hlt hx=>hno b hlt (fun q=>hx (by rw[hout b q];exact hx8))) (h.hands.kept (hbu.block hb h.hands.lt hHb)) ⟨rfl,rfl,rfl⟩ hRJ'.stays,⟨hbu.os,hbu.tape,hbu.output,hbu.size,fun b hlt h1=>⟨?_,hbu.block b hlt (hnS b (by rw[h1];omega))⟩⟩,h5,h0,hlay,fun e he u hu q=>?_,fun e he g hg q=>?_⟩
 ·rw[hno b hlt (hnot b (by rw[h1];omega))]
  exact h1
 ·have h1:=h.oE e he u.g q
  have h2:=hout u.g (.inr ⟨u,hu,rfl⟩);omega
 ·have h1:=hRJ.oE e he g q
  have h2:=hout g (.inl hg);omega
end
theorem rp_self{qs:List Rp}{i:Nat}(hi:i<qs.length):qs.set i (rpat qs i)=qs:=by
 refine List.ext_getElem? (fun j=>?_);rw[List.getElem?_set];split
 ·rename_i e;subst e
  exact(rpat_some hi).symm
 ·rfl
def TkI(r:Rcv)(us:List Un)(uv:Value)(z:Int×Int)(r':Rcv):Prop:=
 (r.shut=true/\us=[]/\uv=.slice none 0 0/\z=(8,-1)/\r'=r)∨(r.shut=false/\us=r.un/\uv=r.uv/\z=(0,-1)/\r'=r.told)
theorem Rcv.told_ok{r:Rcv}(ok:r.Ok):r.told.Ok:=⟨ok.cfg,ok.tk,by simp[Rcv.told],ok.known,ok.few⟩
theorem SimR.told{r:Rcv}{q:Rrv}(h:SimR r q)(hs:r.shut=false):SimR r.told q.told:=by
 have hO:=h.live hs;exact⟨h.K,h.N,h.S,h.shut,fun _=>⟨hO.tk,hO.nums,hO.num,hO.all,rfl,by simp[Rcv.told],fun u hu=>by simp[Rcv.told]at hu,hO.whA⟩,⟨h.fit.cfg,h.fit.few,h.fit.part,h.fit.wh,by simp[Rrv.told]⟩,fun _=>h.nw hs⟩
section
variable {A:Nat->Addr}{B0:Nat}{own:Nat->Nat}{w:World}{hb i:Nat}{hs:HS}{es:List Ent}{ps:List Pr}{qs:List Rp}{os:List Ent}
theorem xtaken1(h:XJ A B0 own w hb hs es ps qs os)(hi:i<qs.length)(hrp:RpOk (rpat qs i)):
 Calls Tryz.prog 24 #[.pointer (some ⟨(rpat qs i).rb,0,none⟩)] w fun e w'=>∃ us ua uc ev z r',e=.returned (.tuple #[.slice ua us.length uc,ev])/\TkI (rpat qs i).r us (.slice ua us.length uc) z r'/\VSays A w' ev z/\us.length<=16/\(us.map Un.g).Nodup/\(∀ u ∈ us,u.l.length<=255)/\
  ∃ own',XJ A B0 own' w' hb hs es ps (qs.set i {rpat qs i with r:=r'}) os/\Fr own w own' w'/\(∀ b,(Value.slice ua us.length uc).ownBlock=some b->own' b=5)/\(∀ u ∈ us,own' u.g=0)/\Lay w' (hb+1) (.slice ua us.length uc) us/\(∀ e ∈ es,∀ u ∈ us,e.v.ownBlock≠some u.g)/\∀ e ∈ os,∀ g,(Value.slice ua us.length uc).ownBlock=some g->e.v.ownBlock≠some g:=by
 obtain⟨hRc,hok⟩:=h.rest.now.rcv i hi;refine(taken_any hRc hok h.errs).mono ?_;rintro e w' (⟨hs',rfl,hbe⟩|⟨hs',rfl,hR',hbu⟩)
 ·refine⟨[],none,0,_,(8,-1),(rpat qs i).r,rfl,.inl ⟨hs',rfl,rfl,rfl,rfl⟩,.inr (.inl ⟨7,by omega,rfl,rfl⟩),by simp,by simp,fun u hu=>by simp at hu,ownN own w.heap.size 0,?_,Fr.above 0 hbe,fun b hb'=>by simp[Value.ownBlock]at hb',fun u hu=>by simp at hu,⟨World.ownsRow_nil ..,fun u hu=>by simp at hu⟩,fun e he u hu=>by simp at hu,fun e he g hg=>by simp[Value.ownBlock]at hg⟩
  have e1:({rpat qs i with r:=(rpat qs i).r}:Rp)=rpat qs i:=rfl;rw[e1,rp_self hi];exact WJ.above h 0 hbe
 ·obtain⟨ua,uc,huv,_⟩:=own_form2 hRc.own
  obtain⟨own',hJ,hF,h5,h0,hlay,hE1,hO1⟩:=XJ.tells h hi hbu hR' (Rcv.told_ok hok);refine⟨(rpat qs i).r.un,ua,uc,_,(0,-1),(rpat qs i).r.told,by rw[huv],.inr ⟨hs',rfl,huv.symm,rfl,rfl⟩,.inl ⟨rfl,rfl⟩,hok.un,hrp.apart,hrp.short,own',hJ,hF,fun b hb'=>h5 b (by rw[huv];exact hb'),h0,by rw[<- huv];exact hlay,hE1,fun e he g hg=>hO1 e he g (by rw[huv];exact hg)⟩
theorem xtaken2{r':Rcv}{us:List Un}{uv:Value}{z:Int×Int}(h:XJ A B0 own w hb hs es ps (qs.set i {rpat qs i with r:=r'}) os)(hi:i<qs.length)(hrp:RpOk (rpat qs i))(htk:TkI (rpat qs i).r us uv z r'):
 Calls Tryz.prog 57 #[.pointer (some ⟨(rpat qs i).qb,0,none⟩)] w fun e w'=>∃ ts ta tc q',e=.returned (.tuple #[.slice ta ts.length tc,.agg #[.int .i64 z.1,.int .i64 z.2]])/\us.map (fun u=>(u.n,u.l))=ts.map (fun t:Tn=>(t.n,t.r.l))/\w'.ownsRow (hb+1) 136 2 (.slice ta ts.length tc) ts.length (flat2 (tnVals ts))/\(∀ t ∈ ts,BRow w' (hb+1) t.r)/\RpOk {rpat qs i with r:=r',q:=q'}/\
  But (fun b=>b=(rpat qs i).qb) w w'/\XJ A B0 (ownN own w.heap.size 1) w' hb hs es ps ((qs.set i {rpat qs i with r:=r'}).set i {rpat (qs.set i {rpat qs i with r:=r'}) i with q:=q'}) os/\Fr own w (ownN own w.heap.size 1) w':=by
 have hi1:i<(qs.set i {rpat qs i with r:=r'}).length:=by simpa using hi
 have hpr:rpat (qs.set i {rpat qs i with r:=r'}) i={rpat qs i with r:=r'}:=by rw[rpat_set hi,if_pos rfl]
 have hRJ:=h.rest.now
 have hR:RrAt w (hb+1) (rpat qs i).qb (rpat qs i).q:=by
  have:=hRJ.rrv i hi1;rw[hpr]at this;exact this
 have hsh:=hrp.sim.shut
 have hfin:∀(q':Rrv) (w':World),RrAt w' (hb+1) (rpat qs i).qb q'->But (fun b=>b=(rpat qs i).qb) w w'->(∀ b,q'.foot (rpat qs i).qb b->(rpat qs i).q.foot (rpat qs i).qb b)->XJ A B0 (ownN own w.heap.size 1) w' hb hs es ps ((qs.set i {rpat qs i with r:=r'}).set i {rpat (qs.set i {rpat qs i with r:=r'}) i with q:=q'}) os/\Fr own w (ownN own w.heap.size 1) w':=fun q' w' hR' hbu hft=>by
  have hbu2:But ((rpat qs i).q.foot (rpat qs i).qb) w w':=hbu.wide (fun b _ e=>.inl e)
  have hD:∀ b,(rpat qs i).q.foot (rpat qs i).qb b->own b=4*i+9:=fun b q=>by
   have:=hRJ.oD i b hi1;rw[hpr]at this;exact this q
  refine⟨XJ.stepD (k:=1) h hi1 (by rw[hpr];exact hbu2) (by rw[hpr];exact hR') (fun b q=>?_),Fr.but hbu2 (fun b _ q=>by rw[hD b q];omega)⟩;rw[hpr]at q;have q':=hft b q;rw[ownN_old (hR.foot_lt q').2];exact hD b q'
 refine(rtakeAll_any hR).mono ?_;rintro e w' (⟨hs',rfl,hbe⟩|⟨hs',rfl,hR',hbu⟩)
 ·rcases htk with⟨h1,rfl,_,rfl,rfl⟩|⟨h1,_⟩
  ·have hbu:But (fun b=>b=(rpat qs i).qb) w w':=Below.but hbe _ (fun i h1 h2=>absurd h1 h2)
   obtain⟨hJ,hF⟩:=hfin (rpat qs i).q w' (hR.above hbe) hbu (fun b q=>q);exact⟨[],none,0,(rpat qs i).q,rfl,rfl,World.ownsRow_nil ..,fun t ht=>by simp at ht,⟨hrp.sim,hrp.apart,hrp.short⟩,hbu,hJ,hF⟩
  ·rw[hsh,h1]at hs';cases hs'
 ·rcases htk with⟨h1,_⟩|⟨h1,rfl,_,rfl,rfl⟩
  ·rw[hsh,h1]at hs';cases hs'
  ·obtain⟨ta,tc,htv,_⟩:=own_form2 hR.town
   obtain⟨hJ,hF⟩:=hfin (rpat qs i).q.told w' hR' hbu (fun b q=>Rrv.told_foot q);refine⟨(rpat qs i).q.tk,ta,tc,(rpat qs i).q.told,by rw[htv],(hrp.sim.live h1).un,?_,fun t ht=>?_,⟨hrp.sim.told h1,by show([].map Un.g).Nodup;simp,fun u hu=>by simp[Rcv.told]at hu⟩,hbu,hJ,hF⟩
   ·rw[<- htv]
    exact hbu.own hR.town (fun g hg e=>own_ne hR.town hg hR.blk (by decide) e)
   ·obtain⟨q1,⟨cs,q2⟩,q3⟩:=hR.objs t ht
    have he:=hbu.block _ (lt_of_block q2) (fun e=>ne_typ q2 hR.blk (by decide) e);exact⟨q1,⟨cs,he.trans q2⟩,bs_block q3 he⟩
end
theorem bs_size{w:World}{g:Nat}{l:List Gf.F}{cs:Array Value}{t:TypeId}{f:Nat×Nat}(h:Bs w g 0 l)(hb:w.heap[g]?=some (.cells cs t f)):l.length<=cs.size:=by
 by_cases h0:l.length=0
 ·omega
 ·have h1:=h (l.length - 1) (by omega)
  rw[cell_of_row w g _ _ _ _ hb]at h1;have:=(Array.getElem?_eq_some_iff.1 h1).1;omega
structure KP(A:Nat->Addr)(B0:Nat)(own0:Nat->Nat)(w0:World)(hb N:Nat)(hs:HS)(es:List Ent)(ps:List Pr)(qs:List Rp)(os:List Ent)(uv:Value)(us:List Un)(i:Nat)(own:Nat->Nat)(w:World)(s:HS)(es':List Ent):Prop where
 wj:XJ A B0 own w hb s es' ps qs os
 fr:Fr own0 w0 own w
 n:s.n=((N+i:Nat):Int)
 len:es'.length=es.length+4*i
 nil:s.Nil
 same:s.objs=hs.objs/\s.bmarks=hs.bmarks
 row:w.ownsRow (hb+1) 136 2 uv us.length (flat2 (unVals us))
 own5:∀ b,uv.ownBlock=some b->own b=5
 each:∀ j u,i<=j->us[j]?=some u->own u.g=0/\(hb+1<=u.g/\(∃ cs,w.heap[u.g]?=some (.cells cs 5 (0,0)))/\Bs w u.g 0 u.l)/\∀ e ∈ es',e.v.ownBlock≠some u.g
theorem KP.step{A:Nat->Addr}{B0:Nat}{own0 own:Nat->Nat}{w0 w:World}{hb N i t:Nat}{hs s:HS}{es es':List Ent}{ps:List Pr}{qs:List Rp}{os:List Ent}{uv:Value}{us:List Un}{u:Un}(h:KP A B0 own0 w0 hb N hs es ps qs os uv us i own w s es')(hu:us[i]?=some u)(hul:u.l.length<=1000)(hnd:(us.map Un.g).Nodup)(ht:t<=200000000)(hN:N+16<=t+16)(hi16:i<16)(hes:es.length<=4*t):
 Calls Tryz.prog 54 #[.pointer (some ⟨hb,2,none⟩),.slice (some ⟨u.g,0,none⟩) u.l.length u.l.length] w fun e w'=>e=.returned (.tuple #[])/\∃ own' s' es'',KP A B0 own0 w0 hb N hs es ps qs os uv us (i+1) own' w' s' es'':=by
 obtain⟨hu0,⟨hu1,⟨cs,hu2⟩,hu3⟩,hu4⟩:=h.each i u (Nat.le_refl _) hu;have hcs:=bs_size hu3 hu2;have hv:Row8 w (hb+1) (.slice (some ⟨u.g,0,none⟩) u.l.length u.l.length) u.l.length (cs.toList.take u.l.length):=.inr ⟨u.g,cs,rfl,hu1,hu2,rfl,by rw[List.length_take,Array.length_toList];omega,by unfold maxLen;omega⟩;have hlt:=h.wj.hands.lt;have hlen:=h.len;refine(keepC_any hb (hb+1) (hb+1) (N+i) u.l.length s es' _ _ w h.n (by omega) h.wj.hands h.wj.outs (by omega) (by omega) (by omega) hv (by omega) (fun e he g hg q=>?_)).mono ?_
 ·have e1:u.g=g:=by simpa [Value.ownBlock] using hg
  subst e1;exact hu4 e he q
 ·rintro e w' ⟨rfl,es2,vo,vm,hK⟩
  have hv0:∀ b,(Value.slice (some ⟨u.g,0,none⟩) u.l.length u.l.length).ownBlock=some b->own b=0:=fun b hb'=>by
   have e1:u.g=b:=by simpa [Value.ownBlock] using hb'
   subst e1;exact hu0
  have hJ:=WJ.stepK h.wj hK hv0 (fun b hb' q=>hv.ne h.wj.sown (by decide) b q hb');have hF:=Fr.stepK h.wj hK hv0
  have hbk:∀ {x:Nat} {cs':Array Value} {ty:TypeId},w.heap[x]?=some (.cells cs' ty (0,0))->ty≠81->ty≠33->ty≠3->x≠u.g->w'.heap[x]?=w.heap[x]?:=fun hx h1 h2 h3 h4=>hK.but.block _ (lt_of_block hx) (fun z=>by
   rcases z with z|z|z|z
   ·exact ne_typ hx h.wj.hands h1 z
   ·exact own_ne h.wj.outs.own z hx (fun x=>h2 x.symm) rfl
   ·exact own_ne h.wj.outs.marks z hx (fun x=>h3 x.symm) rfl
   ·exact h4 (by simpa [Value.ownBlock] using z.symm))
  refine⟨rfl,_,_,es'++es2,⟨hJ,h.fr.trans hF,by show((N+i:Nat):Int)+1=_;push_cast;omega,by rw[List.length_append,hK.four,hlen];omega,⟨h.nil.in0,h.nil.rows0,h.nil.ints0,h.nil.want0,h.nil.outer0,h.nil.omarks0,h.nil.lacks0⟩,h.same,own_of_block h.row (fun g hg=>?_),fun b hb'=>?_,fun j u' hj hu'=>?_⟩⟩
  ·obtain⟨cs',hc'⟩:=own_block h.row hg
   exact hbk hc' (by decide) (by decide) (by decide) (fun e=>ne_typ hc' hu2 (by decide) e)
  ·rw[ownN_old (h.row.lt b hb').2]
   exact h.own5 b hb'
  ·obtain⟨q0,⟨q1,⟨cs',q2⟩,q3⟩,q4⟩:=h.each j u' (by omega) hu'
   have hne:u'.g≠u.g:=fun e=>by
    have h1:(us.map Un.g)[i]?=some u.g:=by rw[List.getElem?_map,hu];rfl
    have h2:(us.map Un.g)[j]?=some u'.g:=by rw[List.getElem?_map,hu'];rfl
    exact nodup_get hnd (i:=i) (j:=j) (by omega) ((List.getElem?_eq_some_iff.1 h2).1) (by rw[h1,h2,e])
   have hk:=hbk q2 (by decide) (by decide) (by decide) hne;refine⟨by rw[ownN_old (lt_of_block q2)];exact q0,⟨q1,⟨cs',hk.trans q2⟩,bs_block q3 hk⟩,fun e he=>?_⟩;rcases List.mem_append.1 he with he|he
   ·exact q4 e he
   ·intro z
    rcases hK.newAt e he _ z with x|x
    ·exact hne (by simpa [Value.ownBlock] using x.symm)
    ·have:=lt_of_block q2;omega
theorem xkeepObjects{A:Nat->Addr}{B0:Nat}{own:Nat->Nat}{w:World}{hb N t:Nat}{hs:HS}{es:List Ent}{ps:List Pr}{qs:List Rp}{os:List Ent}{uv:Value}{us:List Un}(h:XJ A B0 own w hb hs es ps qs os)(hlay:Lay w (hb+1) uv us)(h5:∀ b,uv.ownBlock=some b->own b=5)(h0:∀ u ∈ us,own u.g=0)(hnd:(us.map Un.g).Nodup)(hus:us.length<=16)(hul:∀ u ∈ us,u.l.length<=1000)
 (hE1:∀ e ∈ es,∀ u ∈ us,e.v.ownBlock≠some u.g) (hO1:∀ e ∈ os,∀ g,uv.ownBlock=some g->e.v.ownBlock≠some g) (hN:hs.n=(N:Int)) (hN2:N<=t) (ht:t<=200000000) (hes:es.length<=4*t) (hos:os.length<=4*t) (hnil:hs.Nil):
 Calls Tryz.prog 58 #[.pointer (some ⟨hb,2,none⟩),uv] w fun e w'=>e=.returned (.tuple #[])/\∃ own' hs' es' os',XJ A B0 own' w' hb hs' es' ps qs os'/\Fr own w own' w'/\hs'.n=((N+us.length+1:Nat):Int)/\es'.length=es.length+4*us.length/\os'.length=os.length+4/\hs'.Nil:=by
 have hpre:ObPre hb (hb+1) (hb+1) N us.length os uv us (fun i w' s=>i<=us.length/\∃ own' es',KP A B0 own w hb N hs es ps qs os uv us i own' w' s es'):=by
  refine⟨fun i w' s ⟨_,own',es',hK⟩=>?_,fun i w' s hi ⟨_,own',es',hK⟩=>?_⟩
  ·have hlt:=hK.wj.hands.lt
   exact⟨hK.wj.hands,hK.n,by have:=hK.wj.rest.now.obs;exact this,hK.row,hlt,hlt⟩
  ·obtain⟨u,hu⟩:∃ u,us[i]?=some u:=⟨us[i],List.getElem?_eq_getElem hi⟩
   have hv:(unVals us).getD i (.int .i64 0,.int .i64 0)=(.int .i64 (u.n:Int),.slice (some ⟨u.g,0,none⟩) u.l.length u.l.length):=by
    unfold unVals;rw[List.getD_eq_getElem?_getD,List.getElem?_map,hu];rfl
   rw[hv];refine(hK.step hu (hul u (List.mem_of_getElem? hu)) hnd ht (by omega) (by omega) hes).mono ?_;rintro e w2 ⟨rfl,own2,s2,es2,hK2⟩;exact⟨rfl,s2,by omega,own2,es2,hK2⟩
 have hP0:KP A B0 own w hb N hs es ps qs os uv us 0 own w hs es:=⟨h,Fr.refl _ _,hN,by omega,hnil,⟨rfl,rfl⟩,hlay.row,h5,fun j u _ hu=>⟨h0 u (List.mem_of_getElem? hu),hlay.each u (List.mem_of_getElem? hu),fun e he=>hE1 e he u (List.mem_of_getElem? hu)⟩⟩;refine(keepObjects_any hb (hb+1) (hb+1) N us.length hs os uv us _ w hpre ⟨by omega,own,es,hP0⟩ rfl (by omega) (by omega) (by omega) hO1).mono ?_;rintro e w' ⟨rfl,w1,s1,⟨_,own1,es1,hK⟩,os',vo,vm,hKO⟩;have hJ:=hK.wj;have hRJ:=hJ.rest.now;have hx5:∀ b,own1 b=5->xtra (own1 b):=fun b e=>by rw[e];exact⟨by omega,by omega⟩
 have hS:∀ b,b<w1.heap.size->(b=hb∨s1.objs.ownBlock=some b∨s1.bmarks.ownBlock=some b∨uv.ownBlock=some b)->b=hb∨own1 b=5:=fun b _ z=>by
  rcases z with z|z|z|z
  ·exact .inl z
  ·exact .inr (hRJ.oO b z)
  ·exact .inr (hRJ.oM b z)
  ·exact .inr (hK.own5 b z)
 have hn:∀ b,b<w1.heap.size->own1 b≠0->own1 b≠5->¬(b=hb∨s1.objs.ownBlock=some b∨s1.bmarks.ownBlock=some b∨uv.ownBlock=some b):=fun b hlt e0 e5 z=>by
  rcases hS b hlt z with x|x
  ·exact e0 (by rw[x];exact hJ.oH)
  ·exact e5 x
 have h55:∀ b,own1 b=5∨w1.heap.size<=b->ownN own1 w1.heap.size 5 b=5:=fun b q=>by
  by_cases e:b<w1.heap.size
  ·rw[ownN_old e];rcases q with q|q;exact q;omega
  ·exact ownN_new (by omega)
 have hRJ':RJ hb qs (os++os') s1.rv vo vm (ownN own1 w1.heap.size 5) w':=by
  refine⟨hKO.but.own hRJ.rown (fun g hg=>hn g (hRJ.rown.lt g hg).2 (by rw[hRJ.oV g hg];omega) (by rw[hRJ.oV g hg];omega)),fun j hj=>⟨(hRJ.rcv j hj).1.kept (fun b q=>hKO.but.block b (hRJ.ltP hj q) (hn b (hRJ.ltP hj q) (by rw[hRJ.oP j b hj q];omega) (by rw[hRJ.oP j b hj q];omega))),(hRJ.rcv j hj).2⟩,fun j hj=>(hRJ.rrv j hj).kept (fun b q=>hKO.but.block b (hRJ.ltD hj q) (hn b (hRJ.ltD hj q) (by rw[hRJ.oD j b hj q];omega) (by rw[hRJ.oD j b hj q];omega))),hKO.obs,
   fun b hg=>by rw[ownN_old (hRJ.rown.lt b hg).2];exact hRJ.oV b hg,fun j b hj q=>by rw[ownN_old (hRJ.ltP hj q)];exact hRJ.oP j b hj q,fun j b hj q=>by rw[ownN_old (hRJ.ltD hj q)];exact hRJ.oD j b hj q,fun b hg=>h55 b ((hKO.objsAt b hg).imp (hRJ.oO b) id),fun b hg=>h55 b ((hKO.marksAt b hg).imp (hRJ.oM b) id),fun e he b hg=>h55 b ?_⟩
  rcases List.mem_append.1 he with he|he
  ·exact .inl (hRJ.oE e he b hg)
  ·exact(hKO.newAt e he b hg).imp (hK.own5 b) id
 have hJ':=WJ.stepX (R':=RJ hb qs (os++os')) (own':=ownN own1 w1.heap.size 5) (hs':={s1 with n:=((N+us.length:Nat):Int)+1,objs:=vo,bmarks:=vm}) hJ hKO.but (fun b hlt z=>(hS b hlt z).imp id (hx5 b)) (fun b hlt _=>ownN_old hlt) hKO.hands ⟨rfl,rfl,rfl⟩ hRJ'.stays;refine⟨rfl,_,_,es1,os++os',hJ',hK.fr.trans (Fr.but hKO.but (fun b hlt z=>?_)),by show((N+us.length:Nat):Int)+1=_;push_cast;omega,hK.len,by rw[List.length_append,hKO.four],⟨hK.nil.in0,hK.nil.rows0,hK.nil.ints0,hK.nil.want0,hK.nil.outer0,hK.nil.omarks0,hK.nil.lacks0⟩⟩;rcases hS b hlt z with x|x
 ·rw[x,hJ.oH];omega
 ·rw[x];omega
theorem brow_raw{w:World}{B:Nat}{d:Row}(h:BRow w B d):RawIn w ⟨d.val,d.l⟩:=⟨_,_,rfl,fun _=>⟨_,_,rfl,h.2.2⟩⟩
theorem tn_cell{w:World}{Bv n g c i:Nat}{ts:List Tn}(h:w.ownsRow Bv 136 2 (.slice (some ⟨g,0,none⟩) n c) n (flat2 (tnVals ts)))(hl:ts.length=n)(hi:i<n):∃(t:Tn),ts[i]?=some t/\w.cell? ⟨g,i*2,none⟩=some (.int .i64 (t.n:Int))/\w.cell? ⟨g,i*2+1,none⟩=some t.r.val:=by
 obtain⟨u,hu⟩:∃ u,ts[i]?=some u:=⟨ts[i],List.getElem?_eq_getElem (by omega)⟩;have hv:(tnVals ts)[i]?=some (.int .i64 (u.n:Int),u.r.val):=by unfold tnVals;rw[List.getElem?_map,hu];rfl
 have e0:(flat2 (tnVals ts))[i*2]?=some (.int .i64 (u.n:Int)):=by rw[Nat.mul_comm,flat2_get0,hv];rfl
 have e1:(flat2 (tnVals ts))[i*2+1]?=some u.r.val:=by rw[Nat.mul_comm,flat2_get1,hv];rfl
 exact⟨u,hu,own_cell h rfl e0,own_cell h rfl e1⟩
theorem xtaken_any{A:Nat->Addr}{B0:Nat}{own:Nat->Nat}{w:World}{hb t i:Nat}{hs:HS}{es:List Ent}{ps:List Pr}{qs:List Rp}{os:List Ent}(hI:XI A B0 own w hb t hs es ps qs os)(hi:i<qs.length)(ht:t<=199999000):
 Calls Tryz.prog 30 #[.pointer (some ⟨hb,0,none⟩),.agg #[.pointer (some ⟨(rpat qs i).rb,0,none⟩),.pointer (some ⟨(rpat qs i).qb,0,none⟩)]] w fun e w'=>e=.returned (.bool true)/\XStep A B0 own w hb (t+17) ps.length qs.length w':=by
 have hbe:Below w.heap.size w (w.alloc (.cells #[.pointer (some ⟨(rpat qs i).rb,0,none⟩),.pointer (some ⟨(rpat qs i).qb,0,none⟩)] 93)):=(Below.refl _ _).alloc (Nat.le_refl _) _;have hJ0:=hI.toWJ.above 1 hbe;have hF0:Fr own w (ownN own w.heap.size 1) _:=Fr.above 1 hbe;have hX0:=heap_alloc_new w (.cells #[.pointer (some ⟨(rpat qs i).rb,0,none⟩),.pointer (some ⟨(rpat qs i).qb,0,none⟩)] 93);have hO0:ownN own w.heap.size 1 w.heap.size=1:=ownN_new (Nat.le_refl _);obtain⟨N,hN,hN2⟩:=hI.n;have hfE:=hI.fewE;have hfO:=hI.fewO;have hrp:=hI.rp i hi;have hnil:=hI.nil;go_enter Tryz.func30,Tryz.ntmps30;go_upto_region 1 with fail;generalize w.alloc (.cells #[.pointer (some ⟨(rpat qs i).rb,0,none⟩),.pointer (some ⟨(rpat qs i).qb,0,none⟩)] 93)=W0 at *;generalize ownN own w.heap.size 1=own0 at *;have HI:Hid (XI A B0 own w hb t hs es ps qs os):=hI;have HF0:Hid (Fr own w own0 W0):=hF0;have HNL:Hid hs.Nil:=hnil;obtain⟨x0,x1,-,-⟩:=twoE hX0;have HT1:=xtaken1 hJ0 hi hrp;clear hI hF0 hbe hnil;go_wp2_with fail;refine HT1.mono ?_;rintro e w1 ⟨us,ua,uc,ev,z,r',rfl,htk,hv,hus,hnd,hsh,own1,hJ1,hF1,h5,h0,hlay,hE1,hO1⟩;have hX1:=((hF1.keep w.heap.size (lt_of_block hX0) hO0).2).trans hX0;clear HT1 x0 x1;obtain⟨x0,x1,-,-⟩:=twoE hX1;have HT2:=xtaken2 hJ1 hi hrp htk;go_wp2_with fail;refine HT2.mono ?_;rintro e w2 ⟨ts,ta,tc,q',rfl,hmap,hrow2,hts,hrp',hbu2,hJ2,hF2⟩;clear HT2 x0 x1
 have hn:ts.length=us.length:=by
  have:=congrArg List.length hmap;simpa using this.symm
 obtain⟨z0,z1⟩:=z;simp only at *
 have hlay2:Lay w2 (hb+1) (.slice ua us.length uc) us:=hlay.kept (fun b q=>hbu2.block b (hlay.lt q) (fun e=>by
  have hD:own1 (rpat qs i).qb=4*i+9:=by
   have hi1:i<(qs.set i {rpat qs i with r:=r'}).length:=by simpa using hi
   have:=hJ1.rest.now.oD i (rpat qs i).qb hi1;rw[rpat_set hi,if_pos rfl]at this;exact this (.inl rfl)
  rw[<- e]at hD;rcases q with q|⟨u,hu,rfl⟩
  ·rw[h5 b q]at hD;omega
  ·rw[h0 u hu]at hD;omega))
 have hv2:VSays A w2 ev (z0,z1):=hv.kept (fun pb cs hp=>hbu2.block pb (lt_of_block hp) (fun e=>by
  have hi1:i<(qs.set i {rpat qs i with r:=r'}).length:=by simpa using hi
  have hR:=hJ1.rest.now.rrv i hi1;rw[rpat_set hi,if_pos rfl]at hR;exact hR.neB hp (.inl e)))
 have hs12:=hbu2.size;have h5':∀ b,(Value.slice ua us.length uc).ownBlock=some b->ownN own1 w1.heap.size 1 b=5:=fun b hb'=>by rw[ownN_old (hlay.lt (.inl hb'))];exact h5 b hb'
 have h0':∀ u ∈ us,ownN own1 w1.heap.size 1 u.g=0:=fun u hu=>by rw[ownN_old (hlay.lt (.inr ⟨u,hu,rfl⟩))];exact h0 u hu
 generalize ownN own1 w1.heap.size 1=own2 at *;have hb3:Below w2.heap.size w2 (w2.alloc (.cells #[.int .i64 z0,.int .i64 z1] 139)):=(Below.refl _ _).alloc (Nat.le_refl _) _;have hE3:=heap_alloc_new w2 (.cells #[.int .i64 z0,.int .i64 z1] 139);go_upto_region 3 with fail;generalize w2.alloc (.cells #[.int .i64 z0,.int .i64 z1] 139)=W3 at *;obtain⟨eb,heb⟩:∃ x,x=w2.heap.size:=⟨_,rfl⟩;rw[<- heb]at hE3 ⊢;obtain⟨e0,e1,-,-⟩:=twoE hE3;have hJ3:=WJ.above hJ2 1 hb3;have hF3:Fr own2 w2 (ownN own2 w2.heap.size 1) W3:=Fr.above 1 hb3;have hv3:=hv2.below hb3;have hlay3:=hlay2.above hb3;have hrow3:=own_of_block hrow2 (fun g hg=>hb3.block g (hrow2.lt g hg).2)
 have hts3:∀ t ∈ ts,BRow W3 (hb+1) t.r:=fun t ht=>by
  obtain⟨q1,⟨cs,q2⟩,q3⟩:=hts t ht;have he:=hb3.block _ (lt_of_block q2);exact⟨q1,⟨cs,he.trans q2⟩,bs_block q3 he⟩
 have h53:∀ b,(Value.slice ua us.length uc).ownBlock=some b->ownN own2 w2.heap.size 1 b=5:=fun b hb'=>by rw[ownN_old (hlay2.lt (.inl hb'))];exact h5' b hb'
 have h03:∀ u ∈ us,ownN own2 w2.heap.size 1 u.g=0:=fun u hu=>by rw[ownN_old (hlay2.lt (.inr ⟨u,hu,rfl⟩))];exact h0' u hu
 generalize ownN own2 w2.heap.size 1=own3 at *;have HFF:Hid (Fr own w own3 W3):=((HF0.out.trans hF1).trans hF2).trans hF3;have HE7:Hid (∀ w7,Below W3.heap.size W3 w7->w7.cell? ⟨eb,0,none⟩=some (.int .i64 z0)/\w7.cell? ⟨eb,1,none⟩=some (.int .i64 z1)):=fun w7 hb7=>⟨by rw[hb7.cell (lt_of_cell e0)];exact e0,by rw[hb7.cell (lt_of_cell e1)];exact e1⟩
 have HTD:Hid (∀ W,Below W3.heap.size W3 W->Calls Tryz.prog 56 #[ev] W fun e w'=>e=.returned (.agg #[.int .i64 z0,.int .i64 z1])/\Below W.heap.size W w'):=fun W hW=>told_says (z:=(z0,z1)) (hJ3.errs.below (hW.mono (by have:=hJ3.low;have:=hJ3.hands.lt;omega))) (hv3.below hW)
 have hdr:Below W3.heap.size W3 W3.drew:=(Below.refl _ _).drew;have HJ3:Hid (XJ A B0 own3 W3 hb hs es ps ((qs.set i {rpat qs i with r:=r'}).set i {rpat (qs.set i {rpat qs i with r:=r'}) i with q:=q'}) os):=hJ3;have HLY:Hid (Lay W3 (hb+1) (.slice ua us.length uc) us):=hlay3;have HRW:Hid (W3.ownsRow (hb+1) 136 2 (.slice ta ts.length tc) ts.length (flat2 (tnVals ts))):=hrow3;have HTS:Hid (∀ t ∈ ts,BRow W3 (hb+1) t.r):=hts3;have HMP:Hid (us.map (fun u=>(u.n,u.l))=ts.map (fun t:Tn=>(t.n,t.r.l))):=hmap;have H53:Hid _:=h53;have H03:Hid _:=h03;have HED:Hid ((∀ e ∈ es,∀ u ∈ us,e.v.ownBlock≠some u.g)/\∀ e ∈ os,∀ g,(Value.slice ua us.length uc).ownBlock=some g->e.v.ownBlock≠some g):=⟨hE1,hO1⟩;have HRP:Hid (RpOk {rpat qs i with r:=r',q:=q'}):=hrp';have HND:Hid ((us.map Un.g).Nodup/\∀ u ∈ us,u.l.length<=255):=⟨hnd,hsh⟩;clear heb hE3 hb3 hJ0 hJ1 hJ2 hJ3 hF1 hF2 hF3 hv hv2 hlay hlay2 hlay3 hrow2 hrow3 hts hts3 h5 h0 h5' h0' hX0 hX1 hO0 htk hbu2 hrp hrp' hE1 hO1 hmap hnd hsh h53 h03;obtain⟨n,hn'⟩:∃ x,x=us.length:=⟨_,rfl⟩;have HN:Hid (n=us.length):=hn';rw[hn,<- hn']at HRW ⊢;rw[<- hn']at HLY hus H53 HED;have HTN:Hid (ts.length=n):=by show _=_;rw[hn,hn']
 clear hn hn'
 go_region_held3 (fun w'=>w'.cell? ⟨eb,0,none⟩=some (.int .i64 z0)/\w'.cell? ⟨eb,1,none⟩=some (.int .i64 z1)) (first | go_keep|exact hkeep) (first
  | (go_at_call 56;refine(HTD.out _ hdr).mono ?_;rintro e w7 ⟨rfl,hb7⟩;(have hbX:Below W3.heap.size W3 w7:=by first | exact Below.undraw hb7|exact hb7);have hkeep:=HE7.out w7 hbX;obtain⟨y0',y1'⟩:=hkeep))
 all_goals
  have HBX:Hid (Below W3.heap.size W3 w7):=hbX
  have HROW:Hid (∀ j,j<n->∃(g1 g2 un ug ul tn tb tof tcap:Nat),ua=some ⟨g1,0,none⟩/\ta=some ⟨g2,0,none⟩/\w7.cell? ⟨g1,j*2,none⟩=some (.int .i64 un)/\w7.cell? ⟨g1,j*2+1,none⟩=some (.slice (some ⟨ug,0,none⟩) ul ul)/\w7.cell? ⟨g2,j*2,none⟩=some (.int .i64 tn)/\w7.cell? ⟨g2,j*2+1,none⟩=some (.slice (some ⟨tb,tof,none⟩) ul tcap)/\un=tn/\∃ s:ByteArray,(∀ nq,(convert 33 9 (.slice (some ⟨ug,0,none⟩) ul ul)).run Tryz.prog (w7.drewN nq)=.ok (.string s) (w7.drewN nq))/\∀ nq,(convert 33 9 (.slice (some ⟨tb,tof,none⟩) ul tcap)).run Tryz.prog (w7.drewN nq)=.ok (.string s) (w7.drewN nq)):=fun j hj=>by
   have hlay7:=HLY.out.above hbX;have hrow7:=own_of_block HRW.out (fun g hg=>hbX.block g (HRW.out.lt g hg).2);obtain⟨g1,c1,hv1,_,_⟩:=hlay7.row.form (by rw[<- HN.out];omega);obtain⟨g2,c2,hv2,_,_⟩:=hrow7.form (by omega);simp only[Value.slice.injEq]at hv1 hv2;obtain⟨rfl,-,rfl⟩:=hv1;obtain⟨rfl,-,rfl⟩:=hv2;have hr1:=hlay7.row;rw[<- HN.out]at hr1;obtain⟨u,hu,_,k0,k1⟩:=un_cell hr1 HN.out.symm hj;obtain⟨t',ht',m0,m1⟩:=tn_cell hrow7 HTN.out hj
   have he:(u.n,u.l)=(t'.n,t'.r.l):=by
    have h1:(us.map (fun u=>(u.n,u.l)))[j]?=some (u.n,u.l):=by rw[List.getElem?_map,hu];rfl
    have h2:(ts.map (fun t:Tn=>(t.n,t.r.l)))[j]?=some (t'.n,t'.r.l):=by rw[List.getElem?_map,ht'];rfl
    rw[HMP.out,h2]at h1;exact(Option.some.inj h1).symm
   obtain⟨en,el⟩:=Prod.mk.inj he;obtain⟨_,_,hbs⟩:=hlay7.each u (List.mem_of_getElem? hu);obtain⟨q1,⟨cs,q2⟩,q3⟩:=HTS.out t' (List.mem_of_getElem? ht');have hq:=hbX.block _ (lt_of_block q2);have hbt:BRow w7 (hb+1) t'.r:=⟨q1,⟨cs,hq.trans q2⟩,bs_block q3 hq⟩;unfold Row.val at m1;rw[<- el]at m1;have hraw1:RawIn w7 ⟨.slice (some ⟨u.g,0,none⟩) u.l.length u.l.length,u.l⟩:=⟨_,_,rfl,fun _=>⟨_,_,rfl,hbs⟩⟩;have hraw2:=brow_raw hbt;unfold Row.val at hraw2;rw[<- el]at hraw2;exact⟨g1,g2,u.n,u.g,u.l.length,t'.n,t'.r.b,t'.r.o,t'.r.c,rfl,rfl,k0,k1,m0,m1,en,str u.l,fun nq=>hraw1.conv nq,fun nq=>hraw2.conv nq⟩
  clear y0' y1' hb7 e0 e1;go_wp2_with fail
  go_loopw[9,10] (fun t9 t10 wr=>t9=.bool true/\∃ j nq:Nat,j<=n/\t10=.int .i64 j/\wr=w7.drewN nq) (fun _ t _=>n - (intOf t).toNat)
  case atStart=>exact⟨rfl,0,0,by omega,rfl,rfl⟩
  case round=>
   obtain⟨rfl,j,nq,hj,rfl,rfl⟩:=hrel;by_cases hlt:j<n
   ·have hlt1:(j:Int)<(n:Int):=by omega
    have hlt0:(0:Int)<=(j:Int):=by omega
    obtain⟨g1,g2,un,ug,ul,tn,tb,tof,tcap,rfl,rfl,k0,k1,m0,m1,rfl,s,hc1,hc2⟩:=HROW.out j hlt;have hss:(s.toList==s.toList)=true:=by rw[beq_iff_eq]
    go_upto_region 7 with fail
    go_quiet (fail)
    go_wp2_with fail
    go_roundw
    case rel=>exact⟨rfl,j+1,_,by omega,by go_num,rfl⟩
    case measure=>simp[intOf];omega
   ·obtain rfl:j=n:=by omega
    have hlt1:¬(j:Int)<(j:Int):=by omega
    have hbD:Below W3.heap.size W3 (w7.drewN nq):=HBX.out.trans ((below_drew rfl).mono HBX.out.size)
    have HKO:Hid (Calls Tryz.prog 58 #[.pointer (some ⟨hb,2,none⟩),.slice ua j uc] (w7.drewN nq) fun e w'=>e=.returned (.tuple #[])/\∃ own' hs' es' os',XJ A B0 own' w' hb hs' es' ps ((qs.set i {rpat qs i with r:=r'}).set i {rpat (qs.set i {rpat qs i with r:=r'}) i with q:=q'}) os'/\Fr (ownN own3 W3.heap.size 1) (w7.drewN nq) own' w'/\hs'.n=((N+us.length+1:Nat):Int)/\es'.length=es.length+4*us.length/\os'.length=os.length+4/\hs'.Nil):=by
     have hl:=HLY.out;exact xkeepObjects (t:=t) (WJ.above HJ3.out 1 hbD) (hl.above hbD) (fun b hb'=>by rw[ownN_old (hl.lt (.inl hb'))];exact H53.out b hb') (fun u hu=>by rw[ownN_old (hl.lt (.inr ⟨u,hu,rfl⟩))];exact H03.out u hu) HND.out.1 (by rw[<- HN.out];exact hus) (fun u hu=>by have:=HND.out.2 u hu;omega) HED.out.1 HED.out.2 hN hN2 (by omega) hfE hfO HNL.out
    go_wp2_with fail;refine HKO.out.mono ?_;rintro e w9 ⟨rfl,own9,hs9,es9,os9,hJ9,hF9,hn9,he9,ho9,hnl9⟩;go_wp2_with fail;go_ret;have hX:=HI.out;have hus':us.length<=16:=by rw[<- HN.out];exact hus
    refine⟨rfl,own9,hs9,es9,ps,_,os9,⟨⟨hJ9,fun j hj=>(hX.sim j hj).more (by omega),⟨_,hn9,by omega⟩,by omega,by have:=hX.fewP;omega,hnl9⟩,fun j hj=>?_,by have:=hX.fewQ;simp;omega,by omega⟩,rfl,by simp,(HFF.out.trans (Fr.above 1 hbD)).trans hF9⟩;rw[rpat_set2 hi];split
    ·exact HRP.out
    ·exact hX.rp j (by simpa using hj)
theorem three_boxes(w:World)(X Y Z:Obj):Below w.heap.size w (((w.alloc X).alloc Y).alloc Z)/\(((w.alloc X).alloc Y).alloc Z).heap[w.heap.size]?=some X/\(((w.alloc X).alloc Y).alloc Z).heap[w.heap.size+1]?=some Y/\(((w.alloc X).alloc Y).alloc Z).heap[w.heap.size+1+1]?=some Z:=threeK w X Y Z
theorem xcarry_any{A:Nat->Addr}{B0:Nat}{own:Nat->Nat}{w:World}{hb t i j b o:Nat}{hs:HS}{es:List Ent}{ps:List Pr}{qs:List Rp}{os:List Ent}{q:Opv}{l:List Gf.F}(hI:XI A B0 own w hb t hs es ps qs os)(hi:i<ps.length)(hj:j<qs.length)(ht:t<=199999000)(hqa:-9223372036854775808<=q.a/\q.a<=9223372036854775807)(hOw:OpB own w q.p b o q.n q.c l):
 Calls Tryz.prog 88 #[.pointer (some ⟨hb,0,none⟩),.agg #[.pointer (some ⟨(pat ps i).sb,0,none⟩),.pointer (some ⟨(pat ps i).rb,0,none⟩)],.agg #[.pointer (some ⟨(rpat qs j).rb,0,none⟩),.pointer (some ⟨(rpat qs j).qb,0,none⟩)],.agg q.cells] w fun e w'=>e=.returned (.bool true)/\XStay A B0 own w hb (t+20) hs.sv ps qs w':=by
 obtain⟨kd,on,tt,qa,K,N,S,p,n,c⟩:=q;simp only[Opv.cells]at *;obtain⟨hbe,hXa,hXb,hXc⟩:=three_boxes w (.cells #[.pointer (some ⟨(pat ps i).sb,0,none⟩),.pointer (some ⟨(pat ps i).rb,0,none⟩)] 89) (.cells #[.pointer (some ⟨(rpat qs j).rb,0,none⟩),.pointer (some ⟨(rpat qs j).qb,0,none⟩)] 93) (.cells #[.int .i64 kd,.int .i64 on,.int .i64 tt,.int .i64 qa,.int .i64 K,.int .i64 N,.int .i64 S,.slice p n c] 83);have hI0:=hI.above 1 hbe;have hF0:Fr own w (ownN own w.heap.size 1) _:=Fr.above 1 hbe;have hO1:∀ k,w.heap.size<=k->ownN own w.heap.size 1 k=1:=fun k hk=>ownN_new hk
 go_enter Tryz.func88,Tryz.ntmps88;go_upto_region 1 with fail;generalize ((w.alloc (.cells #[.pointer (some ⟨(pat ps i).sb,0,none⟩),.pointer (some ⟨(pat ps i).rb,0,none⟩)] 89)).alloc (.cells #[.pointer (some ⟨(rpat qs j).rb,0,none⟩),.pointer (some ⟨(rpat qs j).qb,0,none⟩)] 93)).alloc (.cells #[.int .i64 kd,.int .i64 on,.int .i64 tt,.int .i64 qa,.int .i64 K,.int .i64 N,.int .i64 S,.slice p n c] 83)=W0 at *;have hOb:=hOw.fr hF0;have hoa:=hO1 w.heap.size (Nat.le_refl _);have hob:=hO1 (w.heap.size+1) (by omega);have hoc:=hO1 (w.heap.size+1+1) (by omega);generalize ownN own w.heap.size 1=own0 at *;obtain⟨ba,hba⟩:∃ x,x=w.heap.size:=⟨_,rfl⟩;rw[<- hba]at hXa hXb hXc hoa hob hoc ⊢;obtain⟨bb,hbb⟩:∃ x,x=ba+1:=⟨_,rfl⟩;rw[<- hbb]at hXb hXc hob hoc ⊢;obtain⟨bc,hbc⟩:∃ x,x=bb+1:=⟨_,rfl⟩;rw[<- hbc]at hXc hoc ⊢;have HF0:Hid (Fr own w own0 W0):=hF0
 have HCL:Hid (∀(W:World) (own':Nat->Nat),Fr own0 W0 own' W->(W.cell? ⟨ba,0,none⟩=some (.pointer (some ⟨(pat ps i).sb,0,none⟩))/\W.cell? ⟨ba,1,none⟩=some (.pointer (some ⟨(pat ps i).rb,0,none⟩)))/\(W.cell? ⟨bb,0,none⟩=some (.pointer (some ⟨(rpat qs j).rb,0,none⟩))/\W.cell? ⟨bb,1,none⟩=some (.pointer (some ⟨(rpat qs j).qb,0,none⟩)))/\W.cell? ⟨bc,3,none⟩=some (.int .i64 qa)/\W.cell? ⟨bc,7,none⟩=some (.slice p n c)):=fun W own' hF=>by
  have h1:=((hF.keep ba (lt_of_block hXa) hoa).2).trans hXa;have h2:=((hF.keep bb (lt_of_block hXb) hob).2).trans hXb;have h3:=((hF.keep bc (lt_of_block hXc) hoc).2).trans hXc;exact⟨⟨(twoE h1).1,(twoE h1).2.1⟩,⟨(twoE h2).1,(twoE h2).2.1⟩,cell_of_row W bc 3 _ _ _ h3,cell_of_row W bc 7 _ _ _ h3⟩
 obtain⟨_,_,x3,x7⟩:=HCL.out W0 own0 (Fr.refl _ _);have HI0:Hid (XI A B0 own0 W0 hb t hs es ps qs os):=hI0;have hbs0:0<n->∃ g oo,p=some ⟨g,oo,none⟩/\W0.cell? ⟨g,oo,none⟩=some (.int .u8 ((at_ l 0).toNat:Int)):=fun h0=>⟨b,o,hOb.adr h0,by have:=hOb.bs 0 (by rw[hOb.len];exact h0);rwa [Nat.add_zero]at this⟩
 have hlv:=(at_ l 0).isLt;clear hba hbb hbc hXa hXb hXc hoa hob hoc hO1 hI0 hI hF0 hbe hOw hOb;generalize (at_ l 0).toNat=lv at *;obtain⟨M,hM⟩:∃ x,x=pickN qa 21:=⟨_,rfl⟩;have hM20:M<=20:=by have:=pickN_lt qa (n:=21) (by omega);omega
 have HPK:Hid (∀ W,Calls Tryz.prog 80 #[.int .i64 qa,.int .i64 21] W fun e w'=>e=.returned (.int .i64 M)/\w'=W):=fun W=>by rw[hM];exact pick_any qa 21 (by omega) (by omega) hqa W
 clear hM;go_upto_region 2 with fail
 go_cut[16] from 13 to 16 (fun t wx=>t=.bool (decide (0<n))/\wx=W0)
 case first=>
  by_cases h0:0<n
  ·have h01:(0:Int)<(n:Int):=by omega
   go_wp2_with fail
   go_meet
   exact⟨by first | rfl|simp[h0],rfl⟩
  ·have h01:¬(0:Int)<(n:Int):=by omega
   go_wp2_with fail
   go_meet
   exact⟨by first | rfl|simp[h0],rfl⟩
 case rest=>
  obtain⟨ht16,hwc⟩:=hcut;subst ht16;subst hwc;obtain⟨W0,rfl⟩:∃ x,x=wc:=⟨wc,rfl⟩;go_upto_if 16 with fail
  go_cut[9,16] from 17 to 20 (fun t _ wx=>(∃ lv:Nat,lv<256/\t=.int .u8 (lv:Int))/\wx=W0)
  case first=>
   by_cases h0:0<n
   ·obtain⟨g,oo,rfl,hc⟩:=hbs0 h0
    have h01:(0:Int)<(n:Int):=by omega
    rw[decide_eq_true h0];go_wp2_with fail
    go_meet
    exact⟨⟨lv,hlv,rfl⟩,rfl⟩
   ·rw[decide_eq_false h0]
    go_wp2_with fail
    go_meet
    exact⟨⟨0,by omega,rfl⟩,rfl⟩
  case rest=>
   obtain⟨⟨lv',hlv',ht9⟩,hwc⟩:=hcut;subst ht9;subst hwc;obtain⟨W0,rfl⟩:∃ x,x=wc:=⟨wc,rfl⟩;clear x3 x7 hbs0 hlv;go_wp2_with fail
   go_loopw[10,11,12] (fun t10 _ _ wr=>∃ k:Nat,k<=M/\t10=.int .i64 k/\∃ own' hs' es' ps' qs' os',Hid (XI A B0 own' wr hb (t+k) hs' es' ps' qs' os')/\SamePs ps ps'/\SameQs qs qs'/\Hid (hs'.sv=hs.sv)/\Hid (Fr own0 W0 own' wr)) (fun t _ _ _=>M - (intOf t).toNat)
   case atStart=>exact⟨0,by omega,rfl,own0,hs,es,ps,qs,os,HI0,SamePs.refl _,SameQs.refl _,rfl,Fr.refl _ _⟩
   case round=>
    clear HI0;obtain⟨k,hk,rfl,own1,hs1,es1,ps1,qs1,os1,HI1,hps1,hqs1,HV1,HF1⟩:=hrel;obtain⟨⟨a0,a1⟩,⟨r0,r1⟩,x3,_⟩:=HCL.out wr own1 HF1.out;go_wp2_with fail;refine(HPK.out _).mono ?_;rintro e w' ⟨rfl,rfl⟩;by_cases hkM:k<M
    ·have hkM1:(k:Int)<(M:Int):=by omega
     have HNX:Hid (Calls Tryz.prog 28 #[.pointer (some ⟨hb,0,none⟩),.agg #[.pointer (some ⟨(pat ps i).sb,0,none⟩),.pointer (some ⟨(pat ps i).rb,0,none⟩)]] w' fun e w2=>∃ a b o n c l,e=.returned (.tuple #[.slice a n c,.bool true])/\∃ own' hs' es' ps',WI A B0 (RJ hb qs1 os1) own' w2 hb (t+k+1) hs' es' ps'/\SamePs ps1 ps'/\hs'.sv=hs1.sv/\Fr own1 w' own' w2/\OpB own' w2 a b o n c l):=by
      have:=wnext_full HI1.out.toWI (i:=i) (by rw[hps1.1];exact hi) (by omega);rw[(hps1.2 i).1,(hps1.2 i).2]at this;exact this
     go_wp2_with fail;refine HNX.out.mono ?_;rintro e w2 ⟨na,nb,no,nn,nc,nl,rfl,own2,hs2,es2,ps2,hW2,hps2,hv2,hF2,hOB2⟩;have HI2:Hid (XI A B0 own2 w2 hb (t+k+1) hs2 es2 ps2 qs1 os1):=⟨hW2,HI1.out.rp,by have:=HI1.out.fewQ;omega,by have:=HI1.out.fewO;omega⟩;have HOB:Hid (OpB own2 w2 na nb no nn nc nl):=hOB2;have HF2:Hid (Fr own0 W0 own2 w2):=HF1.out.trans hF2;have hps12:=hps1.trans hps2;have HV2:Hid (hs2.sv=hs.sv):=hv2.trans HV1.out;clear hv2;have hnn:=hOB2.few;clear HNX hW2 hOB2 hF2 a0 a1 r0 r1 x3;go_upto_region 10 with fail
     go_cut[47] from 36 to 47 (fun t wx=>(∃ bl:Bool,t=.bool bl)/\wx=w2)
     case first=>
      obtain⟨r,hr⟩:∃ r:Nat,r=k%8:=⟨_,rfl⟩;have hr8:r<8:=by omega
      have hrem:(k:Int).tmod 8=(r:Int):=by rw[Int.tmod_eq_emod_of_nonneg (by omega)];omega
      clear hr;go_wp2_with fail
      all_goals go_meet
      all_goals exact⟨⟨_,rfl⟩,rfl⟩
     case rest=>
      obtain⟨⟨bl,ht47⟩,hwc⟩:=hcut;subst ht47;subst hwc;obtain⟨w2,rfl⟩:∃ x,x=wc:=⟨wc,rfl⟩
      cases bl with
      | true=>
       obtain⟨_,⟨r0,r1⟩,_,_⟩:=HCL.out w2 own2 HF2.out
       have HHR:Hid (Calls Tryz.prog 86 #[.pointer (some ⟨hb,0,none⟩),.agg #[.pointer (some ⟨(rpat qs j).rb,0,none⟩),.pointer (some ⟨(rpat qs j).qb,0,none⟩)],.slice na nn nc] w2 fun e w'=>e=.returned (.bool true)/\XStay A B0 own2 w2 hb (t+k+1) hs2.sv ps2 qs1 w'):=by
        have:=xhear_any HI2.out (i:=j) (by rw[hqs1.1];exact hj) HOB.out;rw[(hqs1.2 j).1,(hqs1.2 j).2]at this;exact this
       go_wp2_with fail;refine HHR.out.mono ?_;rintro e w3 ⟨rfl,own3,hs3,es3,ps3,qs3,os3,hI3,hps3,hqs3,hv3,hF3⟩;have HV3:Hid (hs3.sv=hs.sv):=hv3.trans HV2.out;clear hv3;clear HHR r0 r1;go_wp2_with fail
       go_roundw
       case rel=>
        first
         | exact⟨k+1,by omega,by go_num,own3,hs3,es3,ps3,qs3,os3,hI3,hps12.trans hps3,hqs1.trans hqs3,HV3,HF2.out.trans hF3⟩
         | ((repeat apply Exists.intro);exact⟨⟨k+1,by omega,by go_num,own3,hs3,es3,ps3,qs3,os3,hI3,hps12.trans hps3,hqs1.trans hqs3,HV3,HF2.out.trans hF3⟩,rfl⟩)
       case measure=>simp[intOf];omega
      | false=>
       go_wp2_with fail
       go_roundw
       case rel=>
        first
         | exact⟨k+1,by omega,by go_num,own2,hs2,es2,ps2,qs1,os1,HI2,hps12,hqs1,HV2,HF2⟩
         | ((repeat apply Exists.intro);exact⟨⟨k+1,by omega,by go_num,own2,hs2,es2,ps2,qs1,os1,HI2,hps12,hqs1,HV2,HF2⟩,rfl⟩)
       case measure=>simp[intOf];omega
    ·obtain rfl:k=M:=by omega
     have hkM1:¬(k:Int)<(k:Int):=by omega
     go_wp2_with fail;go_ret;exact⟨rfl,own1,hs1,es1,ps1,qs1,os1,HI1.out.more (by omega),hps1,hqs1,HV1.out,HF0.out.trans HF1.out⟩
def ClI(r:Rcv)(z:Int×Int)(r':Rcv):Prop:=(r.shut=true/\z=(8,-1)/\r'=r)∨(r.shut=false/\z=(0,-1)/\r'=r.closed)
theorem SimR.closed{r:Rcv}{q:Rrv}(h:SimR r q):SimR r.closed q.closed:=
 ⟨h.K,h.N,h.S,rfl,fun x=>by simp[Rcv.closed]at x,⟨h.fit.cfg,h.fit.few,h.fit.part,h.fit.wh,h.fit.tk⟩,fun x=>by simp[Rcv.closed]at x⟩
theorem Rcv.closed_foot{r:Rcv}{rb b:Nat}(h:r.closed.foot rb b):r.foot rb b:=by
 rcases h with q|q|q|q|⟨u,hu,_⟩|⟨m,kb,k,hm,hk,_⟩
 ·exact .inl q
 ·exact .inr (.inl q)
 ·exact .inr (.inr (.inl q))
 ·simp[Rcv.closed,Value.ownBlock]at q
 ·simp[Rcv.closed]at hu
 ·simp[Rcv.closed]at hk
section
variable {A:Nat->Addr}{B0:Nat}{own0:Nat->Nat}{W0 W:World}{hb t i:Nat}{hs:HS}{es:List Ent}{ps:List Pr}{qs:List Rp}{os:List Ent}
theorem PhB.stepP{W':World}{r':Rcv}(h:PhB A B0 (RJ hb qs os) own0 W0 hb hs es ps W)(hi:i<qs.length)(hbu:But ((rpat qs i).r.foot (rpat qs i).rb) W W')(hS:RcAt W' (hb+1) (rpat qs i).rb r')(ok:r'.Ok)(hf:∀ b,r'.foot (rpat qs i).rb b->(rpat qs i).r.foot (rpat qs i).rb b∨W.heap.size<=b):
 PhB A B0 (RJ hb (qs.set i {rpat qs i with r:=r'}) os) own0 W0 hb hs es ps W':=by
 obtain⟨own,hJ,hF⟩:=h;have hR:=hJ.rest.now;refine⟨_,XJ.stepP (k:=4*i+8) hJ hi hbu hS ok (fun b q=>?_),hF.trans (Fr.but hbu (fun b _ q=>by rw[hR.oP i b hi q];omega))⟩;rcases hf b q with q|q
 ·rw[ownN_old (hR.ltP hi q)];exact hR.oP i b hi q
 ·exact ownN_new q
theorem xclose1(h:PhB A B0 (RJ hb qs os) own0 W0 hb hs es ps W)(hi:i<qs.length):
 Calls Tryz.prog 23 #[.pointer (some ⟨(rpat qs i).rb,0,none⟩)] W fun e W'=>∃ v z r',e=.returned v/\VSays A W' v z/\ClI (rpat qs i).r z r'/\PhB A B0 (RJ hb (qs.set i {rpat qs i with r:=r'}) os) own0 W0 hb hs es ps W':=by
 have h':=h;obtain⟨own,hJ,hF⟩:=h';obtain⟨hRc,hok⟩:=hJ.rest.now.rcv i hi;refine(close_any hRc hok hJ.errs).mono ?_;rintro e W' (⟨hs',rfl,rfl⟩|⟨hs',rfl,hR',hbu⟩)
 ·refine⟨_,(8,-1),(rpat qs i).r,rfl,.inr (.inl ⟨7,by omega,rfl,rfl⟩),.inl ⟨hs',rfl,rfl⟩,?_⟩
  have e1:({rpat qs i with r:=(rpat qs i).r}:Rp)=rpat qs i:=rfl;rw[e1,rp_self hi];exact h
 ·exact⟨_,(0,-1),(rpat qs i).r.closed,rfl,.inl ⟨rfl,rfl⟩,.inr ⟨hs',rfl,rfl⟩,h.stepP hi (hbu.wide (fun b _ z=>by
   rcases z with z|z|z
   ·exact .inl z
   ·exact .inr (.inl z)
   ·exact .inr (.inr (.inl z)))) hR' (Rcv.closed_ok hok) (fun b q=>.inl (Rcv.closed_foot q))⟩
theorem xclose2{v:Value}{z z':Int×Int}{r':Rcv}(h:PhB A B0 (RJ hb (qs.set i {rpat qs i with r:=r'}) os) own0 W0 hb hs es ps W)(hi:i<qs.length)(hrp:RpOk (rpat qs i))(hcl:ClI (rpat qs i).r z r')(hv:VSays A W v z'):
 Calls Tryz.prog 87 #[.pointer (some ⟨(rpat qs i).qb,0,none⟩)] W fun e W'=>e=.returned (.agg #[.int .i64 z.1,.int .i64 z.2])/\VSays A W' v z'/\∃ q',RpOk {rpat qs i with r:=r',q:=q'}/\PhB A B0 (RJ hb ((qs.set i {rpat qs i with r:=r'}).set i {rpat (qs.set i {rpat qs i with r:=r'}) i with q:=q'}) os) own0 W0 hb hs es ps W':=by
 have h':=h;obtain⟨own,hJ,hF⟩:=h';have hi1:i<(qs.set i {rpat qs i with r:=r'}).length:=by simpa using hi
 have hpr:rpat (qs.set i {rpat qs i with r:=r'}) i={rpat qs i with r:=r'}:=by rw[rpat_set hi,if_pos rfl]
 have hR:RrAt W (hb+1) (rpat qs i).qb (rpat qs i).q:=by
  have:=hJ.rest.now.rrv i hi1;rw[hpr]at this;exact this
 have hsh:=hrp.sim.shut
 have hfin:∀(q':Rrv) (W':World),RrAt W' (hb+1) (rpat qs i).qb q'->But (fun b=>b=(rpat qs i).qb) W W'->(∀ b,q'.foot (rpat qs i).qb b->(rpat qs i).q.foot (rpat qs i).qb b)->VSays A W' v z'/\PhB A B0 (RJ hb ((qs.set i {rpat qs i with r:=r'}).set i {rpat (qs.set i {rpat qs i with r:=r'}) i with q:=q'}) os) own0 W0 hb hs es ps W':=fun q' W' hR' hbu hft=>by
  have hbu2:But ((rpat qs i).q.foot (rpat qs i).qb) W W':=hbu.wide (fun b _ e=>.inl e);exact⟨hv.kept (fun pb cs hp=>hbu2.block pb (lt_of_block hp) (hR.neB hp)),h.stepD hi1 (by rw[hpr];exact hbu2) (by rw[hpr];exact hR') (fun b q=>by rw[hpr]at q ⊢;exact .inl (hft b q))⟩
 refine(rclose_any hR).mono ?_;rintro e W' (⟨hs',rfl,hbe⟩|⟨hs',rfl,hR',hbu⟩)
 ·rcases hcl with⟨h1,rfl,rfl⟩|⟨h1,_⟩
  ·obtain⟨e1,e2⟩:=hfin (rpat qs i).q W' (hR.above hbe) (Below.but hbe _ (fun i h1 h2=>absurd h1 h2)) (fun b q=>q)
   exact⟨rfl,e1,_,⟨hrp.sim,hrp.apart,hrp.short⟩,e2⟩
  ·rw[hsh,h1]at hs';cases hs'
 ·rcases hcl with⟨h1,_⟩|⟨h1,rfl,rfl⟩
  ·rw[hsh,h1]at hs';cases hs'
  ·obtain⟨e1,e2⟩:=hfin (rpat qs i).q.closed W' hR' hbu (fun b q=>q)
   exact⟨rfl,e1,_,⟨hrp.sim.closed,by simp[Rcv.apartG,Rcv.closed],fun u hu=>by simp[Rcv.closed]at hu⟩,e2⟩
end
theorem receiver_cells{A:Nat->Addr}{B0:Nat}{own:Nat->Nat}{w:World}{hb:Nat}{hs:HS}{es:List Ent}{ps:List Pr}{qs:List Rp}{os:List Ent}(h:XJ A B0 own w hb hs es ps qs os)(h0:0<qs.length):
 ∃ g c,hs.rv=.slice (some ⟨g,0,none⟩) qs.length c/\∀ j,j<qs.length->w.cell? ⟨g,j*2,none⟩=some (.pointer (some ⟨(rpat qs j).rb,0,none⟩))/\w.cell? ⟨g,j*2+1,none⟩=some (.pointer (some ⟨(rpat qs j).qb,0,none⟩)):=by
 have hR:=h.rest.now.rown;obtain⟨g,c,hv,_,_⟩:=hR.form h0;refine⟨g,c,hv,fun j hj=>?_⟩;have hp:(rpVals qs)[j]?=some (.pointer (some ⟨(rpat qs j).rb,0,none⟩),.pointer (some ⟨(rpat qs j).qb,0,none⟩)):=by unfold rpVals;rw[List.getElem?_map,rpat_some hj];rfl
 have e0:(flat2 (rpVals qs))[j*2]?=some (.pointer (some ⟨(rpat qs j).rb,0,none⟩)):=by rw[Nat.mul_comm,flat2_get0,hp];rfl
 have e1:(flat2 (rpVals qs))[j*2+1]?=some (.pointer (some ⟨(rpat qs j).qb,0,none⟩)):=by rw[Nat.mul_comm,flat2_get1,hp];rfl
 exact⟨own_cell hR (by rw[hv];rfl) e0,own_cell hR (by rw[hv];rfl) e1⟩
theorem XStep.from{A:Nat->Addr}{B0:Nat}{own own1:Nat->Nat}{w w1 w':World}{hb t t' n m:Nat}(h:XStep A B0 own1 w1 hb t n m w')(hF:Fr own w own1 w1)(ht:t<=t'):XStep A B0 own w hb t' n m w':=by
 obtain⟨own',hs',es',ps',qs',os',m1,m2,m3,m4⟩:=h;exact⟨own',hs',es',ps',qs',os',m1.more ht,m2,m3,hF.trans m4⟩
theorem xhears_old{A:Nat->Addr}{B0:Nat}{own:Nat->Nat}{w:World}{hb t b o:Nat}{hs:HS}{es:List Ent}{ps:List Pr}{qs:List Rp}{os:List Ent}{q:Opv}{l:List Gf.F}(hI:XI A B0 own w hb t hs es ps qs os)(hk:¬ q.kd=5)(hk7:¬ q.kd=7)(hkr:5<=q.kd/\q.kd<=10)(ht:t<=199990000)(hon:-9223372036854775808<=q.on/\q.on<=9223372036854775807)(htt:-9223372036854775808<=q.tt/\q.tt<=9223372036854775807)(hqa:-9223372036854775808<=q.a/\q.a<=9223372036854775807)(hOw:OpB own w q.p b o q.n q.c l):
 Calls Tryz.prog 52 #[.pointer (some ⟨hb,0,none⟩),.agg q.cells] w fun e w'=>e=.returned (.bool true)/\XStep A B0 own w hb (t+20) ps.length qs.length w':=by
 have hbe:Below w.heap.size w (w.alloc (.cells q.cells 83)):=(Below.refl _ _).alloc (Nat.le_refl _) _;have hI0:=hI.above 1 hbe;have hF0:Fr own w (ownN own w.heap.size 1) _:=Fr.above 1 hbe;have hO0:ownN own w.heap.size 1 w.heap.size=1:=ownN_new (Nat.le_refl _);have hX0:=heap_alloc_new w (.cells q.cells 83);obtain⟨kd,on,tt,qa,K,N,S,p,n,c⟩:=q;simp only[Opv.cells]at *;have hfQ:=hI.fewQ;have hfP:=hI.fewP;go_enter Tryz.func52,Tryz.ntmps52;go_upto_region 1 with fail;generalize w.alloc (.cells #[.int .i64 kd,.int .i64 on,.int .i64 tt,.int .i64 qa,.int .i64 K,.int .i64 N,.int .i64 S,.slice p n c] 83)=W0 at *;generalize ownN own w.heap.size 1=own0 at *;have hOb:=hOw.fr hF0;obtain⟨bx,hbx⟩:∃ x,x=w.heap.size:=⟨_,rfl⟩;rw[<- hbx]at hX0 hO0 ⊢;have HF0:Hid (Fr own w own0 W0):=hF0;clear hbx hF0 hbe hI hOw;have HCL:Hid (∀(W:World) (own':Nat->Nat),Fr own0 W0 own' W->W.heap[bx]?=some (.cells #[.int .i64 kd,.int .i64 on,.int .i64 tt,.int .i64 qa,.int .i64 K,.int .i64 N,.int .i64 S,.slice p n c] 83 (0,0))):=fun W own' hF=>((hF.keep bx (lt_of_block hX0) hO0).2).trans hX0
 have hcell:∀ {W:World},W.heap[bx]?=some (.cells #[.int .i64 kd,.int .i64 on,.int .i64 tt,.int .i64 qa,.int .i64 K,.int .i64 N,.int .i64 S,.slice p n c] 83 (0,0))->W.cell? ⟨bx,0,none⟩=some (.int .i64 kd)/\W.cell? ⟨bx,1,none⟩=some (.int .i64 on)/\W.cell? ⟨bx,2,none⟩=some (.int .i64 tt)/\W.cell? ⟨bx,3,none⟩=some (.int .i64 qa)/\W.cell? ⟨bx,4,none⟩=some (.int .i64 K)/\W.cell? ⟨bx,5,none⟩=some (.int .i64 N)/\W.cell? ⟨bx,6,none⟩=some (.int .i64 S)/\W.cell? ⟨bx,7,none⟩=some (.slice p n c):=fun h=>⟨cell_of_row _ bx 0 _ _ _ h,cell_of_row _ bx 1 _ _ _ h,cell_of_row _ bx 2 _ _ _ h,cell_of_row _ bx 3 _ _ _ h,cell_of_row _ bx 4 _ _ _ h,cell_of_row _ bx 5 _ _ _ h,cell_of_row _ bx 6 _ _ _ h,cell_of_row _ bx 7 _ _ _ h⟩
 have HCE:Hid _:=@hcell;clear hcell;obtain⟨x0,-,x2,-,-,-,-,-⟩:=HCE.out (HCL.out W0 own0 (Fr.refl _ _));have hRJ:=hI0.rest.now;obtain⟨va,vc,hva,_⟩:=own_form2 hRJ.rown;have c1:W0.cell? ⟨hb,1,none⟩=some (.slice va qs.length vc):=by rw[cell_of_row W0 hb 1 _ _ _ hI0.hands];show some hs.rv=_;rw[hva]
 by_cases hz:qs.length=0
 ·have hz1:(qs.length:Int)=0:=by omega
  have HI0:Hid (XI A B0 own0 W0 hb t hs es ps qs os):=hI0;clear hI0 hX0 hRJ;go_wp2_with fail;go_ret;exact⟨rfl,_,_,_,_,_,_,HI0.out.more (by omega),rfl,rfl,HF0.out⟩
 ·have hz1:¬(qs.length:Int)=0:=by omega
  obtain⟨g,gc,hsv,hsc⟩:=receiver_cells hI0.toWJ (by omega);rw[hva]at hsv;simp only[Value.slice.injEq]at hsv;obtain⟨rfl,-,-⟩:=hsv;obtain⟨j,hj⟩:∃ x,x=pickN tt qs.length:=⟨_,rfl⟩;have hjl:j<qs.length:=by rw[hj];exact pickN_lt _ (by omega)
  obtain⟨t0,t1⟩:=hsc j hjl;have HPK:Hid (∀ W,Calls Tryz.prog 80 #[.int .i64 tt,.int .i64 (qs.length:Int)] W fun e w'=>e=.returned (.int .i64 j)/\w'=W):=fun W=>by rw[hj];exact pick_any tt qs.length (by omega) (by omega) htt W
  have HI0:Hid (XI A B0 own0 W0 hb t hs es ps qs os):=hI0;have hgl:=lt_of_cell t0;have hbl:=lt_of_cell x2;have hhl:=lt_of_cell c1;have n1:¬ g=W0.heap.size:=Nat.ne_of_lt hgl;have n2:¬ bx=W0.heap.size:=Nat.ne_of_lt hbl;have n3:¬ hb=W0.heap.size:=Nat.ne_of_lt hhl;have hj1:(0:Int)<=(j:Int):=by omega
  have hj2:(j:Int)<(qs.length:Int):=by omega
  obtain⟨sb,hsb⟩:∃ x,x=(rpat qs j).rb:=⟨_,rfl⟩;obtain⟨rb,hrb⟩:∃ x,x=(rpat qs j).qb:=⟨_,rfl⟩;rw[<- hsb]at t0;rw[<- hrb]at t1;have HSB:Hid (sb=(rpat qs j).rb/\rb=(rpat qs j).qb):=⟨hsb,hrb⟩;clear hj hsc hva hX0 hO0 hI0 hsb hrb hRJ;have hk5:(kd==5)=false:=by simpa using hk
  have hz5:((qs.length:Int)==0)=false:=by simpa using hz
  go_upto_region 9 with fail
  try rw[hk5]
  try rw[hz5]
  clear hk5 hz5
  go_cut[9] from 63 to 76 (fun v wx=>∃ X,v=.pointer (some ⟨X,0,none⟩)/\wx.heap[X]?=some (.cells #[.pointer (some ⟨sb,0,none⟩),.pointer (some ⟨rb,0,none⟩)] 93 (0,0))/\W0.heap.size<=X/\Below W0.heap.size W0 wx)
  case first=>
   go_region_held3 (fun w'=>w'.cell? ⟨hb,1,none⟩=some (.slice (some ⟨g,0,none⟩) qs.length vc)/\w'.cell? ⟨bx,2,none⟩=some (.int .i64 tt)/\w'.cell? ⟨g,j*2,none⟩=some (.pointer (some ⟨sb,0,none⟩))/\w'.cell? ⟨g,j*2+1,none⟩=some (.pointer (some ⟨rb,0,none⟩))) (first | go_keep|exact hkeep) (first
    | (go_at_call 80;refine(HPK.out _).mono ?_;rintro e w' ⟨rfl,rfl⟩))
   all_goals go_wp2_with fail
   all_goals go_meet
   all_goals exact⟨W0.heap.size,rfl,heap_alloc_new W0 _,Nat.le_refl _,((Below.refl _ _).alloc (Nat.le_refl _) _).drew⟩
  case rest=>
   obtain⟨X,rfl,hX,hXl,hbx⟩:=hcut;clear x0 x2 t0 t1 c1 hgl hbl hhl n1 n2 n3;generalize hWW:wc=W1 at *;clear hWW;have hI1:=HI0.out.above 1 hbx;have hF1:Fr own0 W0 (ownN own0 W0.heap.size 1) W1:=Fr.above 1 hbx;have hOX:ownN own0 W0.heap.size 1 X=1:=ownN_new hXl;have hO1:=hOb.fr hF1;have HF01:Hid (Fr own w (ownN own0 W0.heap.size 1) W1):=HF0.out.trans hF1;generalize ownN own0 W0.heap.size 1=own1 at *
   have HC1:Hid (∀(W:World) (own':Nat->Nat),Fr own1 W1 own' W->(W.cell? ⟨X,0,none⟩=some (.pointer (some ⟨sb,0,none⟩))/\W.cell? ⟨X,1,none⟩=some (.pointer (some ⟨rb,0,none⟩)))/\W.heap[bx]?=some (.cells #[.int .i64 kd,.int .i64 on,.int .i64 tt,.int .i64 qa,.int .i64 K,.int .i64 N,.int .i64 S,.slice p n c] 83 (0,0))):=fun W own' hF=>by
    obtain⟨u0,u1,_,_⟩:=twoE (((hF.keep X (lt_of_block hX) hOX).2).trans hX);exact⟨⟨u0,u1⟩,HCL.out W own' (hF1.trans hF)⟩
   obtain⟨⟨y0,y1⟩,hB1⟩:=HC1.out W1 own1 (Fr.refl _ _);obtain⟨x0,x1,x2,x3,x4,x5,x6,x7⟩:=HCE.out hB1;have HI1:Hid (XI A B0 own1 W1 hb t hs es ps qs os):=hI1;have HO1:Hid (OpB own1 W1 p b o n c l):=hO1;clear hX hXl hbx hF1 hOX HCL HF0 hI1 hO1 hOb HI0 HPK hB1;by_cases hk6:kd=6
   ·subst hk6
    have HHR:Hid (Calls Tryz.prog 86 #[.pointer (some ⟨hb,0,none⟩),.agg #[.pointer (some ⟨sb,0,none⟩),.pointer (some ⟨rb,0,none⟩)],.slice p n c] W1 fun e w'=>e=.returned (.bool true)/\XStay A B0 own1 W1 hb t hs.sv ps qs w'):=by
     show Calls _ _ _ _ _;rw[HSB.out.1,HSB.out.2];exact xhear_any HI1.out hjl HO1.out
    go_wp2_with fail;refine HHR.out.mono ?_;rintro e w' ⟨rfl,hW⟩;go_wp2_with fail;go_ret;exact⟨rfl,hW.step.from HF01.out (by omega)⟩
   ·by_cases hk9:kd=9
    ·subst hk9
     have HTK:Hid (Calls Tryz.prog 30 #[.pointer (some ⟨hb,0,none⟩),.agg #[.pointer (some ⟨sb,0,none⟩),.pointer (some ⟨rb,0,none⟩)]] W1 fun e w'=>e=.returned (.bool true)/\XStep A B0 own1 W1 hb (t+17) ps.length qs.length w'):=by
      show Calls _ _ _ _ _;rw[HSB.out.1,HSB.out.2];exact xtaken_any HI1.out hjl (by omega)
     go_wp2_with fail;refine HTK.out.mono ?_;rintro e w' ⟨rfl,hW⟩;go_wp2_with fail;go_ret;exact⟨rfl,hW.from HF01.out (by omega)⟩
    ·by_cases hk8:kd=8
     ·subst hk8
      have HAK:Hid (Calls Tryz.prog 29 #[.pointer (some ⟨hb,0,none⟩),.agg #[.pointer (some ⟨sb,0,none⟩),.pointer (some ⟨rb,0,none⟩)]] W1 fun e w'=>∃ a b o n c l,e=.returned (.tuple #[.slice a n c,.bool true])/\∃ own' hs' es',XI A B0 own' w' hb (t+1) hs' es' ps qs os/\Fr own1 W1 own' w'/\OpB own' w' a b o n c l):=by
       show Calls _ _ _ _ _;rw[HSB.out.1,HSB.out.2];exact xask_any HI1.out hjl (by omega)
      go_wp2_with fail;refine HAK.out.mono ?_;rintro e w2 ⟨a2,b2,o2,n2,c2,l2,rfl,own2,hs2,es2,hI2,hF2,hOB2⟩;have HI2:Hid (XI A B0 own2 w2 hb (t+1) hs2 es2 ps qs os):=hI2;have HOB:Hid (OpB own2 w2 a2 b2 o2 n2 c2 l2):=hOB2;have HF2:Hid (Fr own w own2 w2):=HF01.out.trans hF2;have hB2:=(HC1.out w2 own2 hF2).2;clear x0 x1 x2 x3 x4 x5 x6 x7 y0 y1 HAK HO1;obtain⟨-,x1,-,x3,-,-,-,-⟩:=HCE.out hB2;obtain⟨pa,pc,hpa,_⟩:=own_form2 hI2.sown;have c0:w2.cell? ⟨hb,0,none⟩=some (.slice pa ps.length pc):=by rw[cell_of_row w2 hb 0 _ _ _ hI2.hands];show some hs2.sv=_;rw[hpa]
      have hn2:=hOB2.few;obtain⟨r,hr⟩:∃ r:Int,r=qa.tmod 2:=⟨_,rfl⟩;have hrem:qa.tmod 2=r:=hr.symm
      have hr8:-1<=r/\r<=1:=by
       have h1:=Int.lt_tmod_of_pos qa (show(0:Int)<2 by omega);have h2:=Int.tmod_lt_of_pos qa (show(0:Int)<2 by omega);omega
      clear hr hB2
      have HPS:Hid (0<ps.length->∃ g c,pa=some ⟨g,0,none⟩/\∀ j,j<ps.length->w2.cell? ⟨g,j*2,none⟩=some (.pointer (some ⟨(pat ps j).sb,0,none⟩))/\w2.cell? ⟨g,j*2+1,none⟩=some (.pointer (some ⟨(pat ps j).rb,0,none⟩))):=fun h0=>by
       obtain⟨g,c,h1,h2⟩:=sender_cells hI2.toWJ h0;rw[hpa]at h1;simp only[Value.slice.injEq]at h1;exact⟨g,c,h1.1,h2⟩
      clear hpa hI2 hF2 hOB2;go_upto_region 15 with fail
      go_cut[113] from 94 to 113 (fun t wx=>(∃ bl:Bool,t=.bool bl/\(bl=true->0<ps.length))/\wx=w2)
      case first=>
       by_cases hp0:ps.length=0
       ·have hp1:¬(0:Int)<(ps.length:Int):=by omega
        have hp2:(ps.length:Int)=0:=by omega
        go_wp2_with fail
        all_goals go_meet
        all_goals first
         | exact⟨⟨false,rfl,fun h=>by cases h⟩,rfl⟩
         | exact⟨⟨_,rfl,fun h=>by simp_all⟩,rfl⟩
       ·have hp1:(0:Int)<(ps.length:Int):=by omega
        go_wp2_with fail
        all_goals go_meet
        all_goals exact⟨⟨_,rfl,fun _=>by omega⟩,rfl⟩
      case rest=>
       obtain⟨⟨bl,ht47,hbl⟩,hwc⟩:=hcut;subst ht47;subst hwc;obtain⟨w2,rfl⟩:∃ x,x=wc:=⟨wc,rfl⟩
       cases bl with
       | false=>
        go_wp2_with fail;go_ret;exact⟨rfl,_,_,_,_,_,_,HI2.out.more (by omega),rfl,rfl,HF2.out⟩
       | true=>
        have h0:=hbl rfl;obtain⟨g2,gc2,rfl,hsc⟩:=HPS.out h0;obtain⟨k,hk⟩:∃ x,x=pickN on ps.length:=⟨_,rfl⟩;have hkl:k<ps.length:=by rw[hk];exact pickN_lt _ (by omega)
        obtain⟨t0,t1⟩:=hsc k hkl;have HPK:Hid (∀ W,Calls Tryz.prog 80 #[.int .i64 on,.int .i64 (ps.length:Int)] W fun e w'=>e=.returned (.int .i64 k)/\w'=W):=fun W=>by rw[hk];exact pick_any on ps.length (by omega) (by omega) hon W
        have hdr:Below w2.heap.size w2 w2.drew:=(Below.refl _ _).drew
        have HTL:Hid (Calls Tryz.prog 84 #[.pointer (some ⟨hb,0,none⟩),.agg #[.pointer (some ⟨(pat ps k).sb,0,none⟩),.pointer (some ⟨(pat ps k).rb,0,none⟩)],.slice a2 n2 c2] w2.drew fun e w'=>e=.returned (.bool true)/\XStep A B0 own w hb (t+20) ps.length qs.length w'):=by
         refine(wtell_any (HI2.out.above 1 hdr).toWI hkl (HOB.out.fr (Fr.above 1 hdr))).mono ?_;rintro e w' ⟨rfl,hW⟩;exact⟨rfl,((HI2.out.above 1 hdr).sent (by omega) hW).from (HF2.out.trans (Fr.above 1 hdr)) (by omega)⟩
        have hk1:(0:Int)<=(k:Int):=by omega
        have hk2:(k:Int)<(ps.length:Int):=by omega
        generalize (pat ps k).sb=pb at *;generalize (pat ps k).rb=pr at *;clear hk hsc HPS;go_upto_region 16 with fail
        go_region_with (first
         | (go_at_call 80;refine(HPK.out _).mono ?_;rintro e w' ⟨rfl,rfl⟩)
         | (go_at_call 84;refine HTL.out.mono ?_;rintro e w3 ⟨rfl,hX3⟩))
        all_goals go_wp2_with fail
        all_goals go_ret
        all_goals exact⟨rfl,hX3⟩
     ·by_cases hk10:kd=10
      ·subst hk10
       have hP0:PhB A B0 (RJ hb qs os) own1 W1 hb hs es ps W1:=⟨own1,HI1.out.toWJ,Fr.refl _ _⟩
       have HBX:Hid (∀(hs:HS) (R:Rst) W,PhB A B0 R own1 W1 hb hs es ps W->W.cell? ⟨X,0,none⟩=some (.pointer (some ⟨sb,0,none⟩))/\W.cell? ⟨X,1,none⟩=some (.pointer (some ⟨rb,0,none⟩))):=fun hs R W h=>by
        obtain⟨own',_,hF⟩:=h;exact(HC1.out W own' hF).1
       have HC:Hid (Calls Tryz.prog 23 #[.pointer (some ⟨sb,0,none⟩)] W1 fun e W'=>∃ v z r',e=.returned v/\VSays A W' v z/\ClI (rpat qs j).r z r'/\PhB A B0 (RJ hb (qs.set j {rpat qs j with r:=r'}) os) own1 W1 hb hs es ps W'):=by
        show Calls _ _ _ _ _;rw[HSB.out.1];exact xclose1 hP0 hjl
       go_wp2_with fail;refine HC.out.mono ?_;rintro e w2 ⟨v,⟨z0,z1⟩,r',rfl,hv,hcl,hP2⟩;have HCL2:Hid (ClI (rpat qs j).r (z0,z1) r'):=hcl
       have HRC:Hid (∀ W v z',PhB A B0 (RJ hb (qs.set j {rpat qs j with r:=r'}) os) own1 W1 hb hs es ps W->VSays A W v z'->Calls Tryz.prog 87 #[.pointer (some ⟨rb,0,none⟩)] W fun e W'=>e=.returned (.agg #[.int .i64 z0,.int .i64 z1])/\VSays A W' v z'/\∃ q',RpOk {rpat qs j with r:=r',q:=q'}/\PhB A B0 (RJ hb ((qs.set j {rpat qs j with r:=r'}).set j {rpat (qs.set j {rpat qs j with r:=r'}) j with q:=q'}) os) own1 W1 hb hs es ps W'):=fun W v z' h hv=>by
        rw[HSB.out.2];exact xclose2 h hjl (HI1.out.rp j hjl) HCL2.out hv
       have HTD:Hid (∀ W,VSays A W v (z0,z1)->Errs A B0 W->Calls Tryz.prog 56 #[v] W fun e w'=>e=.returned (.agg #[.int .i64 z0,.int .i64 z1])/\Below W.heap.size W w'):=fun W h1 h2=>told_says h2 h1
       have HFIN:Hid (∀ q' W,PhB A B0 (RJ hb ((qs.set j {rpat qs j with r:=r'}).set j {rpat (qs.set j {rpat qs j with r:=r'}) j with q:=q'}) os) own1 W1 hb hs es ps W->RpOk {rpat qs j with r:=r',q:=q'}->XStep A B0 own w hb (t+20) ps.length qs.length W):=fun q' W h hs'=>(HI1.out.phase hjl (Fr.refl _ _) h ⟨hs'.apart,hs'.short⟩ hs'.sim).step.from HF01.out (by omega)
       clear hcl HC x0 x1 x2 x3 x4 x5 x6 x7 y0 y1 hP0;go_upto_region 22 with fail;have hP3d:PhB A B0 (RJ hb (qs.set j {rpat qs j with r:=r'}) os) own1 W1 hb hs es ps w2.drew:=hP2.above ((Below.refl _ _).drew);have hv3d:VSays A w2.drew v (z0,z1):=hv.below ((Below.refl _ _).drew);obtain⟨y0,y1⟩:=HBX.out _ _ _ hP2
       go_region_with (first
        | (go_at_call 56;first
         | (refine(HTD.out _ hv5 hP5.errs).mono ?_;rintro e w6 ⟨rfl,hb6⟩)
         | (refine(HTD.out _ hv3d hP3d.errs).mono ?_;rintro e w4 ⟨rfl,hb4⟩;have hP4:=hP3d.above hb4;have hv4:=hv3d.below hb4;obtain⟨x0',x1'⟩:=HBX.out _ _ _ hP4))
        | (go_at_call 87;first
         | (refine(HRC.out _ _ _ hP4 hv4).mono ?_;rintro e w5 ⟨rfl,hv5,q',hs5,hP5⟩)
         | (refine(HRC.out _ _ _ hP3d hv3d).mono ?_;rintro e w5 ⟨rfl,hv5,q',hs5,hP5⟩)))
       all_goals go_wp2_with fail
       all_goals go_ret
       all_goals first
        | exact⟨rfl,HFIN.out _ _ (hP5.above hb6) hs5⟩
        | exact⟨rfl,HFIN.out _ _ hP5 hs5⟩
      ·exact absurd (show kd=7 by omega) hk7
theorem XStep.from7{A:Nat->Addr}{B0:Nat}{own own1:Nat->Nat}{w w1 w':World}{hb t t' n m:Nat}(h:XStep A B0 own1 w1 hb t n m w')(hF:Fr own w own1 w1)(ht:t<=t'):XStep A B0 own w hb t' n m w':=by
 obtain⟨own',hs',es',ps',qs',os',m1,m2,m3,m4⟩:=h;exact⟨own',hs',es',ps',qs',os',m1.more ht,m2,m3,hF.trans m4⟩
theorem xhears_carry{A:Nat->Addr}{B0:Nat}{own:Nat->Nat}{w:World}{hb t b o:Nat}{hs:HS}{es:List Ent}{ps:List Pr}{qs:List Rp}{os:List Ent}{q:Opv}{l:List Gf.F}(hI:XI A B0 own w hb t hs es ps qs os)(hk7:q.kd=7)(ht:t<=199990000)(hon:-9223372036854775808<=q.on/\q.on<=9223372036854775807)(htt:-9223372036854775808<=q.tt/\q.tt<=9223372036854775807)(hqa:-9223372036854775808<=q.a/\q.a<=9223372036854775807)(hOw:OpB own w q.p b o q.n q.c l):
 Calls Tryz.prog 52 #[.pointer (some ⟨hb,0,none⟩),.agg q.cells] w fun e w'=>e=.returned (.bool true)/\XStep A B0 own w hb (t+20) ps.length qs.length w':=by
 have hbe:Below w.heap.size w (w.alloc (.cells q.cells 83)):=(Below.refl _ _).alloc (Nat.le_refl _) _;have hI0:=hI.above 1 hbe;have hF0:Fr own w (ownN own w.heap.size 1) _:=Fr.above 1 hbe;have hO0:ownN own w.heap.size 1 w.heap.size=1:=ownN_new (Nat.le_refl _);have hX0:=heap_alloc_new w (.cells q.cells 83);obtain⟨kd,on,tt,qa,K,N,S,p,n,c⟩:=q;simp only[Opv.cells]at *;have hk:¬ kd=5:=by omega
 have hk6:¬ kd=6:=by omega
 have hk8:¬ kd=8:=by omega
 have hk9:¬ kd=9:=by omega
 have hk10:¬ kd=10:=by omega
 clear hk7;have hfQ:=hI.fewQ;have hfP:=hI.fewP;go_enter Tryz.func52,Tryz.ntmps52;go_upto_region 1 with fail;generalize w.alloc (.cells #[.int .i64 kd,.int .i64 on,.int .i64 tt,.int .i64 qa,.int .i64 K,.int .i64 N,.int .i64 S,.slice p n c] 83)=W0 at *;generalize ownN own w.heap.size 1=own0 at *;have hOb:=hOw.fr hF0;obtain⟨bx,hbx⟩:∃ x,x=w.heap.size:=⟨_,rfl⟩;rw[<- hbx]at hX0 hO0 ⊢;have HF0:Hid (Fr own w own0 W0):=hF0;clear hbx hF0 hbe hI hOw;have HCL:Hid (∀(W:World) (own':Nat->Nat),Fr own0 W0 own' W->W.heap[bx]?=some (.cells #[.int .i64 kd,.int .i64 on,.int .i64 tt,.int .i64 qa,.int .i64 K,.int .i64 N,.int .i64 S,.slice p n c] 83 (0,0))):=fun W own' hF=>((hF.keep bx (lt_of_block hX0) hO0).2).trans hX0
 have hcell:∀ {W:World},W.heap[bx]?=some (.cells #[.int .i64 kd,.int .i64 on,.int .i64 tt,.int .i64 qa,.int .i64 K,.int .i64 N,.int .i64 S,.slice p n c] 83 (0,0))->W.cell? ⟨bx,0,none⟩=some (.int .i64 kd)/\W.cell? ⟨bx,1,none⟩=some (.int .i64 on)/\W.cell? ⟨bx,2,none⟩=some (.int .i64 tt)/\W.cell? ⟨bx,3,none⟩=some (.int .i64 qa)/\W.cell? ⟨bx,4,none⟩=some (.int .i64 K)/\W.cell? ⟨bx,5,none⟩=some (.int .i64 N)/\W.cell? ⟨bx,6,none⟩=some (.int .i64 S)/\W.cell? ⟨bx,7,none⟩=some (.slice p n c):=fun h=>⟨cell_of_row _ bx 0 _ _ _ h,cell_of_row _ bx 1 _ _ _ h,cell_of_row _ bx 2 _ _ _ h,cell_of_row _ bx 3 _ _ _ h,cell_of_row _ bx 4 _ _ _ h,cell_of_row _ bx 5 _ _ _ h,cell_of_row _ bx 6 _ _ _ h,cell_of_row _ bx 7 _ _ _ h⟩
 have HCE:Hid _:=@hcell;clear hcell;obtain⟨x0,-,x2,-,-,-,-,-⟩:=HCE.out (HCL.out W0 own0 (Fr.refl _ _));have hRJ:=hI0.rest.now;obtain⟨va,vc,hva,_⟩:=own_form2 hRJ.rown;have c1:W0.cell? ⟨hb,1,none⟩=some (.slice va qs.length vc):=by rw[cell_of_row W0 hb 1 _ _ _ hI0.hands];show some hs.rv=_;rw[hva]
 by_cases hz:qs.length=0
 ·have hz1:(qs.length:Int)=0:=by omega
  have HI0:Hid (XI A B0 own0 W0 hb t hs es ps qs os):=hI0;clear hI0 hX0 hRJ;go_wp2_with fail;go_ret;exact⟨rfl,_,_,_,_,_,_,HI0.out.more (by omega),rfl,rfl,HF0.out⟩
 ·have hz1:¬(qs.length:Int)=0:=by omega
  obtain⟨g,gc,hsv,hsc⟩:=receiver_cells hI0.toWJ (by omega);rw[hva]at hsv;simp only[Value.slice.injEq]at hsv;obtain⟨rfl,-,-⟩:=hsv;obtain⟨j,hj⟩:∃ x,x=pickN tt qs.length:=⟨_,rfl⟩;have hjl:j<qs.length:=by rw[hj];exact pickN_lt _ (by omega)
  obtain⟨t0,t1⟩:=hsc j hjl;have HPK:Hid (∀ W,Calls Tryz.prog 80 #[.int .i64 tt,.int .i64 (qs.length:Int)] W fun e w'=>e=.returned (.int .i64 j)/\w'=W):=fun W=>by rw[hj];exact pick_any tt qs.length (by omega) (by omega) htt W
  have HI0:Hid (XI A B0 own0 W0 hb t hs es ps qs os):=hI0;have hgl:=lt_of_cell t0;have hbl:=lt_of_cell x2;have hhl:=lt_of_cell c1;have n1:¬ g=W0.heap.size:=Nat.ne_of_lt hgl;have n2:¬ bx=W0.heap.size:=Nat.ne_of_lt hbl;have n3:¬ hb=W0.heap.size:=Nat.ne_of_lt hhl;have hj1:(0:Int)<=(j:Int):=by omega
  have hj2:(j:Int)<(qs.length:Int):=by omega
  obtain⟨sb,hsb⟩:∃ x,x=(rpat qs j).rb:=⟨_,rfl⟩;obtain⟨rb,hrb⟩:∃ x,x=(rpat qs j).qb:=⟨_,rfl⟩;rw[<- hsb]at t0;rw[<- hrb]at t1;have HSB:Hid (sb=(rpat qs j).rb/\rb=(rpat qs j).qb):=⟨hsb,hrb⟩;clear hj hsc hva hX0 hO0 hI0 hsb hrb hRJ;have hk5:(kd==5)=false:=by simpa using hk
  have hz5:((qs.length:Int)==0)=false:=by simpa using hz
  go_upto_region 9 with fail
  try rw[hk5]
  try rw[hz5]
  clear hk5 hz5
  go_cut[9] from 63 to 76 (fun v wx=>∃ X,v=.pointer (some ⟨X,0,none⟩)/\wx.heap[X]?=some (.cells #[.pointer (some ⟨sb,0,none⟩),.pointer (some ⟨rb,0,none⟩)] 93 (0,0))/\W0.heap.size<=X/\Below W0.heap.size W0 wx)
  case first=>
   go_region_held3 (fun w'=>w'.cell? ⟨hb,1,none⟩=some (.slice (some ⟨g,0,none⟩) qs.length vc)/\w'.cell? ⟨bx,2,none⟩=some (.int .i64 tt)/\w'.cell? ⟨g,j*2,none⟩=some (.pointer (some ⟨sb,0,none⟩))/\w'.cell? ⟨g,j*2+1,none⟩=some (.pointer (some ⟨rb,0,none⟩))) (first | go_keep|exact hkeep) (first
    | (go_at_call 80;refine(HPK.out _).mono ?_;rintro e w' ⟨rfl,rfl⟩))
   all_goals go_wp2_with fail
   all_goals go_meet
   all_goals exact⟨W0.heap.size,rfl,heap_alloc_new W0 _,Nat.le_refl _,((Below.refl _ _).alloc (Nat.le_refl _) _).drew⟩
  case rest=>
   obtain⟨X,rfl,hX,hXl,hbx⟩:=hcut;clear x0 x2 t0 t1 c1 hgl hbl hhl n1 n2 n3;generalize hWW:wc=W1 at *;clear hWW;have hI1:=HI0.out.above 1 hbx;have hF1:Fr own0 W0 (ownN own0 W0.heap.size 1) W1:=Fr.above 1 hbx;have hOX:ownN own0 W0.heap.size 1 X=1:=ownN_new hXl;have hO1:=hOb.fr hF1;have HF01:Hid (Fr own w (ownN own0 W0.heap.size 1) W1):=HF0.out.trans hF1;generalize ownN own0 W0.heap.size 1=own1 at *
   have HC1:Hid (∀(W:World) (own':Nat->Nat),Fr own1 W1 own' W->(W.cell? ⟨X,0,none⟩=some (.pointer (some ⟨sb,0,none⟩))/\W.cell? ⟨X,1,none⟩=some (.pointer (some ⟨rb,0,none⟩)))/\W.heap[bx]?=some (.cells #[.int .i64 kd,.int .i64 on,.int .i64 tt,.int .i64 qa,.int .i64 K,.int .i64 N,.int .i64 S,.slice p n c] 83 (0,0))):=fun W own' hF=>by
    obtain⟨u0,u1,_,_⟩:=twoE (((hF.keep X (lt_of_block hX) hOX).2).trans hX);exact⟨⟨u0,u1⟩,HCL.out W own' (hF1.trans hF)⟩
   obtain⟨⟨y0,y1⟩,hB1⟩:=HC1.out W1 own1 (Fr.refl _ _);obtain⟨x0,x1,x2,x3,x4,x5,x6,x7⟩:=HCE.out hB1;have HI1:Hid (XI A B0 own1 W1 hb t hs es ps qs os):=hI1;have HO1:Hid (OpB own1 W1 p b o n c l):=hO1;clear hX hXl hbx hF1 hOX HCL HF0 hI1 hO1 hOb HI0 HPK hB1;obtain⟨pa,pc,hpa,_⟩:=own_form2 HI1.out.sown;have c0:W1.cell? ⟨hb,0,none⟩=some (.slice pa ps.length pc):=by rw[cell_of_row W1 hb 0 _ _ _ HI1.out.hands];show some hs.sv=_;rw[hpa]
   by_cases hp0:ps.length=0
   ·have hp1:(ps.length:Int)=0:=by omega
    go_wp2_with fail;go_ret;exact⟨rfl,_,_,_,_,_,_,HI1.out.more (by omega),rfl,rfl,HF01.out⟩
   ·have hp1:¬(ps.length:Int)=0:=by omega
    obtain⟨g2,gc2,hsv,hsc⟩:=sender_cells HI1.out.toWJ (by omega);rw[hpa]at hsv;simp only[Value.slice.injEq]at hsv;obtain⟨rfl,-,-⟩:=hsv;obtain⟨k,hk⟩:∃ x,x=pickN on ps.length:=⟨_,rfl⟩;have hkl:k<ps.length:=by rw[hk];exact pickN_lt _ (by omega)
    obtain⟨t0,t1⟩:=hsc k hkl;have HPK:Hid (∀ W,Calls Tryz.prog 80 #[.int .i64 on,.int .i64 (ps.length:Int)] W fun e w'=>e=.returned (.int .i64 k)/\w'=W):=fun W=>by rw[hk];exact pick_any on ps.length (by omega) (by omega) hon W
    have hdr:Below W1.heap.size W1 W1.drew:=(Below.refl _ _).drew
    have HCY:Hid (Calls Tryz.prog 88 #[.pointer (some ⟨hb,0,none⟩),.agg #[.pointer (some ⟨(pat ps k).sb,0,none⟩),.pointer (some ⟨(pat ps k).rb,0,none⟩)],.agg #[.pointer (some ⟨sb,0,none⟩),.pointer (some ⟨rb,0,none⟩)],.agg #[.int .i64 kd,.int .i64 on,.int .i64 tt,.int .i64 qa,.int .i64 K,.int .i64 N,.int .i64 S,.slice p n c]] W1.drew fun e w'=>e=.returned (.bool true)/\(w'.cell? ⟨hb,0,none⟩=some (.slice (some ⟨g2,0,none⟩) ps.length pc)/\w'.cell? ⟨g2,k*2,none⟩=some (.pointer (some ⟨(pat ps k).sb,0,none⟩))/\w'.cell? ⟨g2,k*2+1,none⟩=some (.pointer (some ⟨(pat ps k).rb,0,none⟩))/\w'.cell? ⟨X,0,none⟩=some (.pointer (some ⟨sb,0,none⟩))/\w'.cell? ⟨X,1,none⟩=some (.pointer (some ⟨rb,0,none⟩))/\w'.cell? ⟨bx,0,none⟩=some (.int .i64 kd)/\w'.cell? ⟨bx,1,none⟩=some (.int .i64 on)/\w'.cell? ⟨bx,2,none⟩=some (.int .i64 tt)/\w'.cell? ⟨bx,3,none⟩=some (.int .i64 qa)/\w'.cell? ⟨bx,4,none⟩=some (.int .i64 K)/\w'.cell? ⟨bx,5,none⟩=some (.int .i64 N)/\w'.cell? ⟨bx,6,none⟩=some (.int .i64 S)/\w'.cell? ⟨bx,7,none⟩=some (.slice p n c))/\XStep A B0 own w hb (t+20) ps.length qs.length w'):=by
     show Calls _ _ _ _ _;have HX:=@HSB.out;have hlaw:=xcarry_any (q:=⟨kd,on,tt,qa,K,N,S,p,n,c⟩) (HI1.out.above 1 hdr) hkl hjl (by omega) hqa (HO1.out.fr (Fr.above 1 hdr));rw[<- HX.1,<- HX.2]at hlaw;refine hlaw.mono ?_;rintro e w' ⟨rfl,hW⟩;refine⟨rfl,?_,hW.step.from7 (HF01.out.trans (Fr.above 1 hdr)) (by omega)⟩;obtain⟨own',hs',es',ps',qs',os',hI',hps',hqs',hv',hF'⟩:=hW;have hl':ps'.length=ps.length:=hps'.1;have hv2:hs'.sv=.slice (some ⟨g2,0,none⟩) ps.length pc:=by rw[hv'];exact hpa
     obtain⟨g',c',h1,h2⟩:=sender_cells hI'.toWJ (by omega);rw[hv2]at h1;simp only[Value.slice.injEq,Option.some.injEq,Addr.mk.injEq]at h1;obtain⟨⟨rfl,-⟩,-⟩:=h1;obtain⟨u0,u1⟩:=h2 k (by omega);rw[(hps'.2 k).1]at u0;rw[(hps'.2 k).2]at u1;obtain⟨⟨v0,v1⟩,hB'⟩:=HC1.out w' own' ((Fr.above 1 hdr).trans hF');obtain⟨q0,q1,q2,q3,q4,q5,q6,q7⟩:=HCE.out hB';exact⟨by rw[cell_of_row w' hb 0 _ _ _ hI'.hands];show some hs'.sv=_;rw[hv2],u0,u1,v0,v1,q0,q1,q2,q3,q4,q5,q6,q7⟩
    have hk1:(0:Int)<=(k:Int):=by omega
    have hk2:(k:Int)<(ps.length:Int):=by omega
    generalize (pat ps k).sb=pb at *;generalize (pat ps k).rb=pr at *;clear hk hsc hpa;go_upto_region 25 with fail
    go_region_held3 (fun w'=>w'.cell? ⟨hb,0,none⟩=some (.slice (some ⟨g2,0,none⟩) ps.length pc)/\w'.cell? ⟨g2,k*2,none⟩=some (.pointer (some ⟨pb,0,none⟩))/\w'.cell? ⟨g2,k*2+1,none⟩=some (.pointer (some ⟨pr,0,none⟩))/\w'.cell? ⟨X,0,none⟩=some (.pointer (some ⟨sb,0,none⟩))/\w'.cell? ⟨X,1,none⟩=some (.pointer (some ⟨rb,0,none⟩))/\w'.cell? ⟨bx,0,none⟩=some (.int .i64 kd)/\w'.cell? ⟨bx,1,none⟩=some (.int .i64 on)/\w'.cell? ⟨bx,2,none⟩=some (.int .i64 tt)/\w'.cell? ⟨bx,3,none⟩=some (.int .i64 qa)/\w'.cell? ⟨bx,4,none⟩=some (.int .i64 K)/\w'.cell? ⟨bx,5,none⟩=some (.int .i64 N)/\w'.cell? ⟨bx,6,none⟩=some (.int .i64 S)/\w'.cell? ⟨bx,7,none⟩=some (.slice p n c)) (first | go_keep|exact hkeep) (first
     | (go_at_call 80;refine(HPK.out _).mono ?_;rintro e w' ⟨rfl,rfl⟩)
     | (go_at_call 88;refine HCY.out.mono ?_;rintro e w3 ⟨rfl,hkeep,hX3⟩))
    all_goals go_wp2_with fail
    all_goals go_ret
    all_goals exact⟨rfl,hX3⟩
def I64(x:Int):Prop:=-9223372036854775808<=x/\x<=9223372036854775807
def XMore(A:Nat->Addr)(B0:Nat)(own:Nat->Nat)(w:World)(hb t n k:Nat)(w':World):Prop:=∃ m,XStep A B0 own w hb t n m w'/\n+m<=k+1
theorem xhears_any{A:Nat->Addr}{B0:Nat}{own:Nat->Nat}{w:World}{hb t b o:Nat}{hs:HS}{es:List Ent}{ps:List Pr}{qs:List Rp}{os:List Ent}{q:Opv}{l:List Gf.F}(hI:XI A B0 own w hb t hs es ps qs os)(hkr:5<=q.kd/\q.kd<=10)(ht:t<=199990000)(hon:I64 q.on)(htt:I64 q.tt)(hqa:I64 q.a)(hOw:OpB own w q.p b o q.n q.c l):
 Calls Tryz.prog 52 #[.pointer (some ⟨hb,0,none⟩),.agg q.cells] w fun e w'=>e=.returned (.bool true)/\XMore A B0 own w hb (t+20) ps.length (ps.length+qs.length) w':=by
 by_cases hk:q.kd=5
 ·refine(xhears_new hI hk (by omega)).mono ?_
  rintro e w' ⟨h1,h2⟩;refine⟨h1,_,h2.from (Fr.refl _ _) (by omega),?_⟩;split<;>omega
 ·by_cases hk7:q.kd=7
  ·refine(xhears_carry hI hk7 ht hon htt hqa hOw).mono ?_
   rintro e w' ⟨h1,h2⟩;exact⟨h1,_,h2,by omega⟩
  ·refine(xhears_old hI hk hk7 hkr ht hon htt hqa hOw).mono ?_
   rintro e w' ⟨h1,h2⟩;exact⟨h1,_,h2,by omega⟩
theorem xplays_hears{A:Nat->Addr}{B0:Nat}{own:Nat->Nat}{w:World}{hb t b o:Nat}{hs:HS}{es:List Ent}{ps:List Pr}{qs:List Rp}{os:List Ent}{q:Opv}{l:List Gf.F}(hI:XI A B0 own w hb t hs es ps qs os)(hkr:5<=q.kd/\q.kd<=10)(ht:t<=199990000)(hon:I64 q.on)(htt:I64 q.tt)(hqa:I64 q.a)(hOw:OpB own w q.p b o q.n q.c l):
 Calls Tryz.prog 26 #[.pointer (some ⟨hb,0,none⟩),.agg q.cells] w fun e w'=>e=.returned (.bool true)/\XMore A B0 own w hb (t+20) ps.length (ps.length+qs.length) w':=by
 have hbe:Below w.heap.size w (w.alloc (.cells q.cells 83)):=(Below.refl _ _).alloc (Nat.le_refl _) _;have hI0:=hI.above 1 hbe;have hF0:Fr own w (ownN own w.heap.size 1) _:=Fr.above 1 hbe;have hX0:=heap_alloc_new w (.cells q.cells 83);have hOb:=hOw.fr hF0;have HS0:Hid (Calls Tryz.prog 52 #[.pointer (some ⟨hb,0,none⟩),.agg q.cells] (w.alloc (.cells q.cells 83)) fun e w'=>e=.returned (.bool true)/\XMore A B0 own w hb (t+20) ps.length (ps.length+qs.length) w'):=(xhears_any hI0 hkr ht hon htt hqa hOb).mono (fun e w' ⟨h1,m,h2,h3⟩=>⟨h1,m,h2.from hF0 (Nat.le_refl _),h3⟩);clear hI0 hF0 hOb hOw hI hbe hon htt hqa;obtain⟨kd,on,tt,qa,K,N,S,p,n,c⟩:=q;simp only[Opv.cells]at *;go_enter Tryz.func26,Tryz.ntmps26;go_upto_region 1 with fail;generalize w.alloc (.cells #[.int .i64 kd,.int .i64 on,.int .i64 tt,.int .i64 qa,.int .i64 K,.int .i64 N,.int .i64 S,.slice p n c] 83)=W0 at *;obtain⟨bx,hbx⟩:∃ x,x=w.heap.size:=⟨_,rfl⟩;rw[<- hbx]at hX0 ⊢;have x0:W0.cell? ⟨bx,0,none⟩=some (.int .i64 kd):=cell_of_row W0 bx 0 _ _ _ hX0;have x1:W0.cell? ⟨bx,1,none⟩=some (.int .i64 on):=cell_of_row W0 bx 1 _ _ _ hX0;have x2:W0.cell? ⟨bx,2,none⟩=some (.int .i64 tt):=cell_of_row W0 bx 2 _ _ _ hX0;have x3:W0.cell? ⟨bx,3,none⟩=some (.int .i64 qa):=cell_of_row W0 bx 3 _ _ _ hX0;have x4:W0.cell? ⟨bx,4,none⟩=some (.int .i64 K):=cell_of_row W0 bx 4 _ _ _ hX0;have x5:W0.cell? ⟨bx,5,none⟩=some (.int .i64 N):=cell_of_row W0 bx 5 _ _ _ hX0;have x6:W0.cell? ⟨bx,6,none⟩=some (.int .i64 S):=cell_of_row W0 bx 6 _ _ _ hX0;have x7:W0.cell? ⟨bx,7,none⟩=some (.slice p n c):=cell_of_row W0 bx 7 _ _ _ hX0;clear hX0 hbx;rcases(show kd=5∨kd=6∨kd=7∨kd=8∨kd=9∨kd=10 by omega)with rfl|rfl|rfl|rfl|rfl|rfl
 all_goals
  go_wp2_with fail;refine HS0.out.mono ?_;rintro e w' ⟨rfl,hW⟩;go_wp2_with fail;go_ret;exact⟨rfl,hW⟩
theorem xplays_any{A:Nat->Addr}{B0:Nat}{own:Nat->Nat}{w:World}{hb t b o:Nat}{hs:HS}{es:List Ent}{ps:List Pr}{qs:List Rp}{os:List Ent}{q:Opv}{l:List Gf.F}(hI:XI A B0 own w hb t hs es ps qs os)(hk:q.kd<=10)(ht:t<=199990000)(hon:I64 q.on)(htt:I64 q.tt)(hqa:I64 q.a)(hOw:OpB own w q.p b o q.n q.c l):
 Calls Tryz.prog 26 #[.pointer (some ⟨hb,0,none⟩),.agg q.cells] w fun e w'=>e=.returned (.bool true)/\XMore A B0 own w hb (t+20) (q.more ps.length) (ps.length+qs.length) w':=by
 by_cases hk4:q.kd<=4
 ·refine(wplays_any hI.toWI hk4 (by omega) hon hOw).mono ?_
  rintro e w' ⟨h1,h2⟩;refine⟨h1,_,(hI.sent (by omega) h2).from (Fr.refl _ _) (by omega),?_⟩;unfold Opv.more;split<;>omega
 ·have hm:q.more ps.length=ps.length:=by unfold Opv.more;rw[if_neg (fun h=>by omega)]
  rw[hm];exact xplays_hears hI ⟨by omega,hk⟩ ht hon htt hqa hOw
theorem ObOk.form{w:World}{v:Value}{n m:Nat}(h:ObOk w v n m):∃ a c,v=.slice a n c/\∀ k,k<n->∃ g,a=some ⟨g,0,none⟩/\w.cell? ⟨g,k*2,none⟩=some (.int .i64 (-(m:Int)))/\w.cell? ⟨g,k*2+1,none⟩=some (.slice none 0 0):=by
 rcases h with⟨c,h1,h2⟩|⟨g,c,cs,h1,h2,h3⟩
 ·exact⟨none,c,by rw[h1,h2],fun k hk=>by omega⟩
 ·exact⟨_,c,h1,fun k hk=>⟨g,rfl,by rw[cell_of_row w g _ _ _ _ h2];exact(h3 k hk).1,by rw[cell_of_row w g _ _ _ _ h2];exact(h3 k hk).2⟩⟩
theorem holdsO_any(hb B:Nat)(s:HS)(es ls:List Ent)(w:World)(hH:HAt w hb s)(hO:Outs w B s.out s.marks es)(hL:Obs w B s.objs s.bmarks ls)(he:es.length<=10000000000)(hl:ls.length<=10000000000)(h7:s.outer=.slice none 0 0)(h9:s.lacks=.slice none 0 0):
 Calls Tryz.prog 27 #[.pointer (some ⟨hb,2,none⟩)] w fun e w'=>e=.returned (.bool true)/\∃ nq,w'=w.drewN nq:=by
 have hc5:w.cell? ⟨hb,7,none⟩=some s.out:=hH.cell 5;have hc6:w.cell? ⟨hb,8,none⟩=some s.marks:=hH.cell 6;have hc11:w.cell? ⟨hb,13,none⟩=some s.objs:=hH.cell 11;have hc12:w.cell? ⟨hb,14,none⟩=some s.bmarks:=hH.cell 12;have hc7:w.cell? ⟨hb,9,none⟩=some (.slice none 0 0):=by rw[hH.cell 7,<- h7];rfl
 have hc9:w.cell? ⟨hb,11,none⟩=some (.slice none 0 0):=by rw[hH.cell 9,<- h9];rfl
 obtain⟨oa,oc,hoa⟩:=own_len hO.own;obtain⟨ma,mc,hma⟩:=own_len hO.marks;obtain⟨pa,pc,hpa⟩:=own_len hL.own;obtain⟨qa,qc,hqa⟩:=own_len hL.marks;rw[hoa]at hc5;rw[hma]at hc6;rw[hpa]at hc11;rw[hqa]at hc12
 have HO:Hid (∀ i (hi:i<es.length),∃ go gm,oa=some ⟨go,0,none⟩/\ma=some ⟨gm,0,none⟩/\w.cell? ⟨go,i,none⟩=some es[i].v/\w.cell? ⟨gm,i,none⟩=some (.int .i64 (es[i].m:Int))):=fun i hi=>by
  obtain⟨go,co,h1,_⟩:=hO.own.form (by omega);obtain⟨gm,cm,h2,_⟩:=hO.marks.form (by omega);rw[hoa]at h1;rw[hma]at h2;simp only[Value.slice.injEq]at h1 h2;refine⟨go,gm,h1.1,h2.1,own_cell hO.own (by rw[hoa,h1.1];rfl) (by simp[hi]),own_cell hO.marks (by rw[hma,h2.1];rfl) (by simp[hi])⟩
 have HL:Hid (∀ i (hi:i<ls.length),∃ go gm,pa=some ⟨go,0,none⟩/\qa=some ⟨gm,0,none⟩/\w.cell? ⟨go,i,none⟩=some ls[i].v/\w.cell? ⟨gm,i,none⟩=some (.int .i64 (-(ls[i].m:Int)))):=fun i hi=>by
  obtain⟨go,co,h1,_⟩:=hL.own.form (by omega);obtain⟨gm,cm,h2,_⟩:=hL.marks.form (by omega);rw[hpa]at h1;rw[hqa]at h2;simp only[Value.slice.injEq]at h1 h2;refine⟨go,gm,h1.1,h2.1,own_cell hL.own (by rw[hpa,h1.1];rfl) (by simp[hi]),own_cell hL.marks (by rw[hqa,h2.1];rfl) (by simp[hi])⟩
 have HE:Hid (∀ i (hi:i<es.length),KOk w es[i].v es[i].n es[i].m/\es[i].m<250/\es[i].n<=140737488355328):=fun i hi=>hO.each _ (List.getElem_mem hi)
 have HF:Hid (∀ i (hi:i<ls.length),ObOk w ls[i].v ls[i].n ls[i].m/\ls[i].m<=1000000001/\ls[i].n<=140737488355328):=fun i hi=>hL.each _ (List.getElem_mem hi)
 clear hO hL hH h7 h9 hoa hma hpa hqa;obtain⟨ne,hne⟩:∃ x,x=es.length:=⟨_,rfl⟩;obtain⟨nl,hnl⟩:∃ x,x=ls.length:=⟨_,rfl⟩;rw[<- hne]at hc5 hc6 he;rw[<- hnl]at hc11 hc12 hl;have HNE:Hid (ne=es.length):=hne;have HNL:Hid (nl=ls.length):=hnl;clear hne hnl;go_enter Tryz.func27,Tryz.ntmps27;go_wp2_with fail
 go_loopw[3] (fun t wr=>∃(i nq:Nat),i<=ne/\t=.int .i64 i/\wr=w.drewN nq) (fun t _=>ne - (intOf t).toNat)
 case atStart=>exact⟨0,0,by omega,rfl,rfl⟩
 case round=>
  obtain⟨i,nq,hi,rfl,rfl⟩:=hrel;by_cases hlt:i<ne
  ·have hlt':i<es.length:=by rw[<- HNE.out];exact hlt
   obtain⟨go,gm,rfl,rfl,hgo,hgm⟩:=HO.out i hlt';obtain⟨hK,hm,hnb⟩:=HE.out i hlt';obtain⟨a,c,hv,hcell⟩:=hK.form;rw[hv]at hgo;generalize es[i].m=m at hgm hm hcell hK hv;generalize es[i].n=n at hgo hcell hK hv hnb;clear hv hK;have HC:Hid (∀ k,k<n->∃ g,a=some ⟨g,0,none⟩/\w.cell? ⟨g,k,none⟩=some (.int .u8 (m:Int))):=hcell;clear hcell;have hin:(i:Int)<(ne:Int):=by omega
   go_wp2_with fail
   go_loopw[4] (fun t wr=>∃(k nq:Nat),k<=n/\t=.int .i64 k/\wr=w.drewN nq) (fun t _=>n - (intOf t).toNat)
   case atStart=>exact⟨0,nq,by omega,rfl,rfl⟩
   case round=>
    obtain⟨k,nq2,hk,rfl,rfl⟩:=hrel;by_cases hlt2:k<n
    ·obtain⟨g,rfl,hg⟩:=HC.out k hlt2
     have hkn:(k:Int)<(n:Int):=by omega
     have hmm:((m:Int) != (m:Int))=false:=by simp
     go_wp2_with fail
     go_quiet (fail)
     go_wp2_with fail;refine⟨?_,by simp[intOf];omega⟩
     first
      | exact⟨k+1,_,by omega,by go_num,rfl⟩
      | ((repeat apply Exists.intro);exact⟨⟨k+1,_,by omega,by go_num,rfl⟩,rfl⟩)
    ·obtain rfl:k=n:=by omega
     go_wp2_with fail;refine⟨?_,by simp[intOf];omega⟩
     first
      | exact⟨i+1,_,by omega,by go_num,rfl⟩
      | ((repeat apply Exists.intro);exact⟨⟨i+1,_,by omega,by go_num,rfl⟩,rfl⟩)
  ·obtain rfl:i=ne:=by omega
   go_wp2_with fail
   go_loopw[5] (fun t wr=>t=.int .i64 0/\wr=w.drewN nq) (fun _ _=>0)
   case atStart=>exact⟨rfl,rfl⟩
   case round=>
    obtain⟨rfl,rfl⟩:=hrel;go_wp2_with fail
    go_loopw[8] (fun t wr=>t=.int .i64 0/\wr=w.drewN nq) (fun _ _=>0)
    case atStart=>exact⟨rfl,rfl⟩
    case round=>
     obtain⟨rfl,rfl⟩:=hrel;go_wp2_with fail
     go_loopw[10] (fun t wr=>∃(j nq:Nat),j<=nl/\t=.int .i64 j/\wr=w.drewN nq) (fun t _=>nl - (intOf t).toNat)
     case atStart=>exact⟨0,nq,by omega,rfl,rfl⟩
     case round=>
      obtain⟨j,nq4,hj,rfl,rfl⟩:=hrel;by_cases hlt:j<nl
      ·have hlt':j<ls.length:=by rw[<- HNL.out];exact hlt
       obtain⟨go,gm,rfl,rfl,hgo,hgm⟩:=HL.out j hlt';obtain⟨hK,hm,hnb⟩:=HF.out j hlt';obtain⟨a,c,hv,hcell⟩:=hK.form;rw[hv]at hgo;generalize ls[j].m=m at hgm hm hcell hK hv;generalize ls[j].n=n at hgo hcell hK hv hnb;clear hv hK;have HC:Hid (∀ k,k<n->∃ g,a=some ⟨g,0,none⟩/\w.cell? ⟨g,k*2,none⟩=some (.int .i64 (-(m:Int)))/\w.cell? ⟨g,k*2+1,none⟩=some (.slice none 0 0)):=hcell;clear hcell;have hin:(j:Int)<(nl:Int):=by omega
       go_wp2_with fail
       go_loopw[11] (fun t wr=>∃(k nq:Nat),k<=n/\t=.int .i64 k/\wr=w.drewN nq) (fun t _=>n - (intOf t).toNat)
       case atStart=>exact⟨0,nq4,by omega,rfl,rfl⟩
       case round=>
        obtain⟨k,nq2,hk,rfl,rfl⟩:=hrel;by_cases hlt2:k<n
        ·obtain⟨g,rfl,hg0,hg1⟩:=HC.out k hlt2
         have hkn:(k:Int)<(n:Int):=by omega
         have hmm:((-(m:Int)) != (-(m:Int)))=false:=by simp
         go_wp2_with fail
         go_quiet (fail)
         go_wp2_with fail;exact⟨⟨k+1,_,by omega,by go_num,rfl⟩,by simp[intOf];omega⟩
        ·obtain rfl:k=n:=by omega
         go_wp2_with fail;refine⟨?_,by simp[intOf];omega⟩
         first
          | exact⟨j+1,_,by omega,by go_num,rfl⟩
          | ((repeat apply Exists.intro);exact⟨⟨j+1,_,by omega,by go_num,rfl⟩,rfl⟩)
      ·obtain rfl:j=nl:=by omega
       go_wp2_with fail;go_ret;exact⟨rfl,nq4,rfl⟩
end Go.Proofs.YtjabhnhejbhgjaaGreatDoor
