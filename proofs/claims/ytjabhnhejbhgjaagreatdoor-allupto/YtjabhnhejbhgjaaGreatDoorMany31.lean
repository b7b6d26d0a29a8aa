import Derived.Test.YtjabhnhejbhgjaaGreatDoorMany30
import Derived.Test.YtjabhnhejbhgjaaGreatDoorMany24
import Derived.Test.YtjabhnhejbhgjaaGreatDoorMany29
import Derived.Test.YtjabhnhejbhgjaaGreatDoorMany28
set_option maxRecDepth 100000
set_option maxHeartbeats 8000000
namespace Go.Proofs.YtjabhnhejbhgjaaGreatDoor
open Go.RowKit
theorem by8_bt(l:List Gf.F)(i:Nat):by8 (bt l i)=at_ l i:=by
 unfold by8 bt;rw[BitVec.ofNat_toNat];simp
theorem by8_inj{a b:Nat}(ha:a<256)(hb:b<256)(h:by8 a=by8 b):a=b:=by
 have:=congrArg BitVec.toNat h;unfold by8 at this;rw[BitVec.toNat_ofNat,BitVec.toNat_ofNat]at this;omega
theorem PSim.use{k:Kn}{x:Prt}(h:PSim k x)(hf:x.Fit k.K k.S){bl pl:Nat}(hb:bl<k.ts.length)(hpl:pl<256):k.use bl (by8 pl)↔x.use k.K k.S bl pl:=by
 unfold Kn.use Prt.use
 have h1:k.lk bl=srcN k.K (symN k.S x.len) bl - (ofB x.ps bl).length:=by
  unfold Kn.lk Kn.T;rw[h.cnt hb,h.len]
 have h2:by8 pl ∈(gpt k.ts bl).ps↔pl ∈(ofB x.ps bl).map Pk.plc:=by
  rw[h.ps bl hb];constructor
  ·intro q
   obtain⟨p,hp,e⟩:=List.mem_map.1 q;have:=by8_inj ((hf.each p (ofB_mem hp).1).2.1) hpl e;exact List.mem_map.2 ⟨p,hp,this⟩
  ·intro q
   obtain⟨p,hp,e⟩:=List.mem_map.1 q;exact List.mem_map.2 ⟨p,hp,by rw[e]⟩
 rw[h1,h2];constructor
 ·rintro⟨a,b⟩
  exact⟨b,by omega⟩
 ·rintro⟨a,b⟩
  exact⟨by omega,a⟩
theorem Rrv.Fit.begin{q:Rrv}(h:q.Fit){m len:Nat}{kv:Value}(hm:m<16)(hl:len<=255)(h4:q.kn.length<4):(q.begin m len kv).Fit:=by
 have hle:(q.begin m len kv).kn.length=q.kn.length+1:=by simp[Rrv.begin]
 refine⟨h.cfg,by omega,fun i hi=>?_,h.wh,h.tk⟩;rw[hle]at hi;by_cases e:i<q.kn.length
 ·have:prat (q.begin m len kv).kn i=prat q.kn i:=prat_push _ _ _ e
  rw[this];exact h.part i e
 ·obtain rfl:i=q.kn.length:=by omega
  have:prat (q.begin m len kv).kn q.kn.length=⟨m,len,[],.slice none 0 0⟩:=prat_last _ _;rw[this];exact fit0 hm hl
theorem Rrv.Fit.add{q:Rrv}(h:q.Fit){k:Nat}{p:Pk}{pv:Value}(hk:k<q.kn.length)(hp:p.blk<partsN (symN q.S (prat q.kn k).len) q.K/\p.plc<256/\p.d.l.length=q.S)(hu:(prat q.kn k).use q.K q.S p.blk p.plc):(q.add k p pv).Fit:=by
 have hle:(q.add k p pv).kn.length=q.kn.length:=by simp[Rrv.add]
 refine⟨h.cfg,by rw[hle];exact h.few,fun i hi=>?_,h.wh,h.tk⟩;rw[hle]at hi;have hat:prat (q.add k p pv).kn i=if k=i then(prat q.kn k).more p pv else prat q.kn i:=prat_set hk _ i;rw[hat];split
 ·exact(h.part k hk).more hp hu.2 hu.1
 ·exact h.part i hi
theorem Rrv.Fit.took{q:Rrv}(h:q.Fit){k:Nat}{t:Tn}{tv wv kv:Value}(hk:k<q.kn.length)(hw:q.wh.length<1000)(ht:q.tk.length<1000):(q.took k t tv wv kv).Fit:=by
 have hle:(q.took k t tv wv kv).kn.length=q.kn.length - 1:=by simp[Rrv.took,List.length_eraseIdx,hk]
 refine⟨h.cfg,by rw[hle];have:=h.few;omega,fun i hi=>?_,?_,?_⟩
 ·rw[hle]at hi
  have hat:prat (q.took k t tv wv kv).kn i=prat q.kn (if i<k then i else i+1):=prat_erase _ _ _;rw[hat];exact h.part _ (by split<;>omega)
 ·show(q.wh++[t.n]).length<=1000
  rw[List.length_append];simp;omega
 ·show(q.tk++[t]).length<=1000
  rw[List.length_append];simp;omega
theorem SimO.small{r:Rcv}{q:Rrv}(h:SimO r q):q.wh.length<=16/\q.tk.length<=16:=by
 refine⟨?_,?_⟩
 ·have:=List.Nodup.length_le_of_subset h.whA.1 (l₂:=List.range 16) (fun x hx=>List.mem_range.2 (h.whA.2 x hx))
  simpa using this
 ·have h1:=congrArg List.length h.un
  simp at h1
  have h2:=List.Nodup.length_le_of_subset h.unA (l₂:=List.range 16) (fun x hx=>by
   obtain⟨u,hu,rfl⟩:=List.mem_map.1 hx;exact List.mem_range.2 (h.unT u hu).1)
  simp at h2;omega
theorem SimR.hears{r r':Rcv}{q q1 q':Rrv}{l:List Gf.F}{k:Nat}(h:SimR r q)(ok:r.Ok)(hs:r.shut=false)(hp:parseE r.K r.N r.S l=none)(hk1:bt l 0=1)(ht:r.tk.getD (bt l 1) false=false)(hb:QBegun q (bt l 1) (lenOf l) k q1)(hq:QKept q1 k (bt (l.drop 4) 0) (bt (l.drop 4) 1) ((l.drop 4).drop 2) q')(hst:HStep r l r'):SimR r' q':=by
 have hO:=h.live hs;obtain⟨_,hle,hob⟩:=parse_head hp;obtain⟨hblk,hdl⟩:=parse_dataE hp hk1;have hcnt:=hO.count (fun i hi=>(h.fit.part i hi).num);rcases hst with⟨hz,rfl⟩|⟨_,_,hsk,rfl⟩|⟨_,_,_,_,_,kb,kn,r1,k',hbg,hkept,hend⟩
 ·exfalso
  apply hz
  have hk:¬(¬ bt l 0=1∨r'.tk.getD (bt l 1) false=true):=fun x=>by
   rcases x with x|x
   ·exact x hk1
   ·rw[ht]at x;cases x
  unfold rhearZ;rw[if_neg (by rw[hs];simp),hp];simp only;rw[if_neg hk];unfold dataZ
  cases hkf:r'.kf (bt l 1) with
  | none=>
   have hm:=hO.miss hkf;rcases hb with⟨h1,_⟩|⟨_,h2,_⟩
   ·rw[hm]at h1;cases h1
   ·simp only
    rw[if_neg (by rw[hcnt];exact h2)]
  | some p=>
   obtain⟨kb,kn⟩:=p;obtain⟨i,hi,hi2,hi3,hi4⟩:=hO.hit hob hkf;rcases hb with⟨h1,h2,_⟩|⟨h1,_⟩
   ·rw[hi]at h1
    cases h1
    simp only;rw[if_pos (by rw[hi4.len,h2])]
   ·rw[hi]at h1;cases h1
 ·rcases hsk with x|x
  ·exact absurd hk1 x
  ·rw[ht]at x;cases x
 ·
  have hA:SimO r1 q1/\q1.Fit/\k<q1.kn.length/\(prat q1.kn k).n=bt l 1/\r1.kf (bt l 1)=some (kb,kn)/\PSim kn (prat q1.kn k)/\kn.Ok/\kn.K=r.K/\kn.S=r.S/\(prat q1.kn k).len=lenOf l/\q1.K=r.K/\q1.N=r.N/\q1.S=r.S/\q1.shut=r.shut/\r1.tk=r.tk/\r1.shut=r.shut/\r1.K=r.K/\r1.N=r.N/\r1.S=r.S:=by
   rcases hbg with⟨he,hl,rfl⟩|⟨he,hc,⟨bg,rfl⟩,rfl⟩
   ·obtain⟨i,hi,hi2,hi3,hi4⟩:=hO.hit hob he
    obtain⟨o1,o2,o3,o4⟩:=ok.known _ kb kn hob he;rcases hb with⟨h1,h2,rfl⟩|⟨h1,_⟩
    ·rw[hi]at h1
     cases h1
     exact⟨hO,h.fit,hi2,hi3,he,hi4,o1,o2,o4,h2,h.K,h.N,h.S,h.shut,rfl,rfl,rfl,rfl,rfl⟩
    ·rw[hi]at h1;cases h1
   ·have hm:=hO.miss he
    rcases hb with⟨h1,_⟩|⟨_,h2,rfl,kv,rfl⟩
    ·rw[hm]at h1;cases h1
    ·have hla:prat (q.begin (bt l 1) (lenOf l) kv).kn q.kn.length=⟨bt l 1,lenOf l,[],.slice none 0 0⟩:=prat_last _ _
     exact⟨hO.begin he,h.fit.begin hob hle (by omega),by simp[Rrv.begin],by rw[hla],updF_same _ _ _,by rw[hla];exact psim0 ..,kn0_ok ok.cfg hle,rfl,rfl,by rw[hla],h.K,h.N,h.S,h.shut,rfl,rfl,rfl,rfl,rfl⟩
  obtain⟨a1,a2,a3,a4,a5,a6,a7,a8,a9,b1,b2,b3,b4,b5,b6,b7,b8,b9,c1⟩:=hA;have hfx:=a2.part k a3;rw[b2,b4]at hfx;have hfx':(prat q1.kn k).Fit kn.K kn.S:=by rw[a8,a9];exact hfx
  have hlt:bt (l.drop 4) 0<kn.ts.length:=by
   rw[a7.blocks];unfold Kn.T;rw[a8,a9,a6.len,b1];exact hblk
  have huse:=a6.use hfx' hlt (bt_lt (l.drop 4) 1);rw[by8_bt,a8,a9]at huse;unfold QKept at hq;rw[b2,b4]at hq
  have hoth:∀ m',m'≠bt l 1->r1.kf m'=r.kf m':=fun m' hne=>by
   rcases hbg with⟨_,_,rfl⟩|⟨_,_,_,rfl⟩
   ·rfl
   ·exact updF_other _ _ hne
  have hknw:¬ kn.whole:=by
   rcases hbg with⟨he,_,rfl⟩|⟨_,_,⟨bg,rfl⟩,rfl⟩
   ·exact h.nw hs _ kb kn hob he
   ·exact kn0_not ok.cfg
  have hbase:∀ r':Rcv,∀ q':Rrv,r'.K=r.K->r'.N=r.N->r'.S=r.S->r'.shut=r.shut->q'.K=r.K->q'.N=r.N->q'.S=r.S->q'.shut=r.shut->q'.Fit->SimO r' q'->(∀ m',m'≠bt l 1->r'.kf m'=r.kf m')->(∀ kb k,r'.kf (bt l 1)=some (kb,k)->¬ k.whole)->SimR r' q':=fun r' q' e1 e2 e3 e4 e5 e6 e7 e8 hf hO' hx hy=>⟨by rw[e1,e5],by rw[e2,e6],by rw[e3,e7],by rw[e4,e8],fun _=>hO',hf,fun _ m' kb' k2 hm' he=>by
   by_cases e:m'=bt l 1
   ·subst e;exact hy kb' k2 he
   ·rw[hx m' e]at he;exact h.nw hs m' kb' k2 hm' he⟩
  rcases hkept with⟨hnu,rfl⟩|⟨hu,rw_,pv,sv,hd,ho,rfl⟩
  ·rcases hq with⟨_,rfl⟩|⟨hu',_⟩
   ·rcases hend with⟨_,rfl⟩|⟨hw,g,v,hg,rfl⟩
    ·rw[Rcv.know_same a5]
     exact hbase _ _ b8 b9 c1 b7 b2 b3 b4 b5 a2 a1 hoth (fun kb' k2 he=>by rw[a5]at he;cases he;exact hknw)
    ·exact absurd hw hknw
   ·exact absurd (huse.2 hu') hnu
  ·rcases hq with⟨hnu',_⟩|⟨hu',row,pv',hrl,hqt⟩
   ·exact absurd (huse.1 hu) hnu'
   ·have ho2:(kn.add (bt (l.drop 4) 0) (at_ (l.drop 4) 1) rw_ pv sv).Ok:=Kn.add_ok a7 hlt hu.1 ⟨by rw[hd,hdl,a9],ho⟩
    have hx2:prat (q1.add k ⟨bt (l.drop 4) 0,bt (l.drop 4) 1,row⟩ pv').kn k=(prat q1.kn k).more ⟨bt (l.drop 4) 0,bt (l.drop 4) 1,row⟩ pv':=by
     show prat (q1.kn.set k _) k=_;rw[prat_set a3,if_pos rfl]
    have hps2:PSim (kn.add (bt (l.drop 4) 0) (at_ (l.drop 4) 1) rw_ pv sv) ((prat q1.kn k).more ⟨bt (l.drop 4) 0,bt (l.drop 4) 1,row⟩ pv'):=by
     rw[<- by8_bt (l.drop 4) 1];exact a6.add hlt (by rw[hd,hrl])
    have hF2:(q1.add k ⟨bt (l.drop 4) 0,bt (l.drop 4) 1,row⟩ pv').Fit:=a2.add a3 ⟨by rw[b2,b4,b1];exact hblk,bt_lt _ _,by rw[hrl,hdl,b4]⟩ (by rw[b2,b4];exact hu');have hS2:=a1.add (p:=⟨bt (l.drop 4) 0,bt (l.drop 4) 1,row⟩) (pv:=pv') a5 a3 a4 hps2;have hl2:k<(q1.add k ⟨bt (l.drop 4) 0,bt (l.drop 4) 1,row⟩ pv').kn.length:=by simpa [Rrv.add] using a3
    have hfx2:=hF2.part k hl2;rw[hx2]at hfx2
    have hfx3:((prat q1.kn k).more ⟨bt (l.drop 4) 0,bt (l.drop 4) 1,row⟩ pv').Fit (kn.add (bt (l.drop 4) 0) (at_ (l.drop 4) 1) rw_ pv sv).K (kn.add (bt (l.drop 4) 0) (at_ (l.drop 4) 1) rw_ pv sv).S:=by
     show Prt.Fit _ kn.K kn.S;rw[a8,a9,<- b2,<- b4];exact hfx2
    have hwi:=hps2.fit ho2 hfx3;have eS:(kn.add (bt (l.drop 4) 0) (at_ (l.drop 4) 1) rw_ pv sv).S=r.S:=a9;have eK:(kn.add (bt (l.drop 4) 0) (at_ (l.drop 4) 1) rw_ pv sv).K=r.K:=a8;have eQS:(q1.add k ⟨bt (l.drop 4) 0,bt (l.drop 4) 1,row⟩ pv').S=r.S:=b4;have eQK:(q1.add k ⟨bt (l.drop 4) 0,bt (l.drop 4) 1,row⟩ pv').K=r.K:=b2;rw[eS]at hwi;unfold QTook at hqt;rw[hx2,eQS,eQK]at hqt;rcases hend with⟨hnw,rfl⟩|⟨hw,g,v,hg,rfl⟩
    ·rcases hqt with⟨_,rfl⟩|⟨hw',_⟩
     ·exact hbase _ _ b8 b9 c1 b7 b2 b3 b4 b5 hF2 hS2 (fun m' hne=>by show updF r1.kf _ _ m'=_;rw[updF_other _ _ hne];exact hoth m' hne) (fun kb' k2 he=>by
       change updF r1.kf _ _ _=_ at he
       rw[updF_same]at he;cases he;exact hnw)
     ·exact absurd (hwi.2 hw') hnw
    ·rcases hqt with⟨hnw',_⟩|⟨_,g',c',tv,wv,kv,rfl⟩
     ·have:=hwi.1 hw;omega
     ·have hcat:=hps2.cat ho2 hw (kn.add (bt (l.drop 4) 0) (at_ (l.drop 4) 1) rw_ pv sv).ts.length (Nat.le_refl _)
      rw[eS,eK]at hcat;have hbl2:=ho2.blocks
      have hT2:(kn.add (bt (l.drop 4) 0) (at_ (l.drop 4) 1) rw_ pv sv).T=symN r.S ((prat q1.kn k).more ⟨bt (l.drop 4) 0,bt (l.drop 4) 1,row⟩ pv').len:=by
       unfold Kn.T;rw[eS,hps2.len]
      rw[hT2,eK]at hbl2;have hn2:((prat q1.kn k).more ⟨bt (l.drop 4) 0,bt (l.drop 4) 1,row⟩ pv').n=bt l 1:=a4;have hsm:=hO.small
      have hwh1:q1.wh=q.wh/\q1.tk=q.tk:=by
       rcases hb with⟨_,_,rfl⟩|⟨_,_,_,kv',rfl⟩
       ·exact⟨rfl,rfl⟩
       ·exact⟨rfl,rfl⟩
      have hS3:=hS2.took (by show r1.tk.length=16;rw[b6];exact ok.tk) (m:=bt l 1) (kb:=kb) (i:=k) (g:=g) (d:=⟨g',0,c',(((prat q1.kn k).more ⟨bt (l.drop 4) 0,bt (l.drop 4) 1,row⟩ pv').cat r.K r.S (partsN (symN r.S ((prat q1.kn k).more ⟨bt (l.drop 4) 0,bt (l.drop 4) 1,row⟩ pv').len) r.K)).take ((prat q1.kn k).more ⟨bt (l.drop 4) 0,bt (l.drop 4) 1,row⟩ pv').len⟩) (l:=((kn.add (bt (l.drop 4) 0) (at_ (l.drop 4) 1) rw_ pv sv).cat (kn.add (bt (l.drop 4) 0) (at_ (l.drop 4) 1) rw_ pv sv).ts.length).take (kn.add (bt (l.drop 4) 0) (at_ (l.drop 4) 1) rw_ pv sv).len) (v:=v) (tv:=tv) (wv:=wv) (kv:=kv) hob (updF_same _ _ _) hl2 (by rw[hx2];exact hn2) (by show r1.tk.getD _ _=_;rw[b6];exact ht) (by rw[<- hbl2,hcat,hps2.len]);rw[hn2]
      exact hbase _ _ b8 b9 c1 b7 b2 b3 b4 b5 (hF2.took hl2 (by show q1.wh.length<1000;rw[hwh1.1];omega) (by show q1.tk.length<1000;rw[hwh1.2];omega)) hS3 (fun m' hne=>by show updF (updF r1.kf _ _) _ _ m'=_;rw[updF_other _ _ hne,updF_other _ _ hne];exact hoth m' hne) (fun kb' k2 he=>by
       change updF (updF r1.kf _ _) _ none _=_ at he
       rw[updF_same]at he;cases he)
theorem RrHears.one{r:Rcv}{q:Rrv}{l:List Gf.F}{B rb:Nat}{w w':World}{e:Ending}(h:RrHears q l B rb w e w')(hR:RrAt w B rb q)(ok:r.Ok)(sim:SimR r q):
 e=.returned (.agg #[.int .i64 (rhearZ r l).1,.int .i64 (rhearZ r l).2])/\∃ q',RrAt w' B rb q'/\But (q.foot rb) w w'/\(∀ b,q'.foot rb b->q.foot rb b∨w.heap.size<=b)/\∀ r',HStep r l r'->SimR r' q':=by
 have hkeep:∀ w',Below w.heap.size w w'->But (q.foot rb) w w':=fun w' hb=>Below.but hb _ (fun i h1 h2=>absurd h1 h2)
 have hsame:(rhearZ r l≠(0,-1)∨r.shut=true∨¬ parseE r.K r.N r.S l=none∨¬ bt l 0=1∨r.tk.getD (bt l 1) false=true)->∀ r',HStep r l r'->SimR r' q:=fun hx r' hst=>by
  rcases hst with⟨_,rfl⟩|⟨_,_,_,rfl⟩|⟨h1,h2,h3,h4,h5,_⟩
  ·exact sim
  ·exact sim
  ·exfalso
   rcases hx with x|x|x|x|x
   ·exact x h5
   ·rw[h1]at x;cases x
   ·exact x h2
   ·exact x h3
   ·rw[h4]at x;cases x
 unfold RrHears at h;rw[sim.shut,sim.K,sim.N,sim.S]at h;by_cases hs:r.shut=true
 ·rw[if_pos hs]at h
  obtain⟨rfl,hb⟩:=h;have hz:rhearZ r l=(8,-1):=by unfold rhearZ;rw[if_pos hs]
  rw[hz];exact⟨rfl,q,hR.above hb,hkeep _ hb,fun b z=>.inl z,hsame (.inr (.inl hs))⟩
 ·rw[if_neg hs]at h
  have hs':r.shut=false:=by simpa using hs
  have hO:=sim.live hs'
  cases hp:parseE r.K r.N r.S l with
  | some p=>
   obtain⟨c,k⟩:=p;rw[hp]at h;obtain⟨rfl,hb⟩:=h;have hz:rhearZ r l=((c:Int),(k:Int)):=by unfold rhearZ;rw[if_neg hs,hp]
   rw[hz];exact⟨rfl,q,hR.above hb,hkeep _ hb,fun b z=>.inl z,hsame (.inr (.inr (.inl (by rw[hp];simp))))⟩
  | none=>
   rw[hp]at h;simp only at h;obtain⟨_,hle,hob⟩:=parse_head hp;have hwh:=hO.tk (bt l 1) hob;by_cases hk:¬ bt l 0=1∨bt l 1 ∈ q.wh
   ·rw[if_pos hk]at h
    obtain⟨rfl,hb⟩:=h;have hk':¬ bt l 0=1∨r.tk.getD (bt l 1) false=true:=hk.imp id hwh.2;have hz:rhearZ r l=(0,-1):=by unfold rhearZ;rw[if_neg hs,hp];simp only;rw[if_pos hk']
    rw[hz];exact⟨rfl,q,hR.above hb,hkeep _ hb,fun b z=>.inl z,hsame (.inr (.inr (.inr hk')))⟩
   ·rw[if_neg hk]at h
    have hk1:bt l 0=1:=Classical.byContradiction fun z=>hk (.inl z)
    have hk':¬(¬ bt l 0=1∨r.tk.getD (bt l 1) false=true):=fun z=>hk (z.imp id hwh.1)
    have htk:r.tk.getD (bt l 1) false=false:=by
     cases ht:r.tk.getD (bt l 1) false with
     | false=>rfl
     | true=>exact absurd (.inr ht) hk'
    have hcnt:=hO.count (fun i hi=>(sim.fit.part i hi).num);have hz:rhearZ r l=dataZ r l:=by unfold rhearZ;rw[if_neg hs,hp];simp only;rw[if_neg hk']
    unfold dataZ at hz;rcases h with⟨k,hf,hl,rfl,hb⟩|⟨hf,h4,rfl,hb⟩|⟨rfl,hbu,k,q1,q',hbg,hkt,hR',hft⟩
    ·obtain⟨h1,h2⟩:=findP_some hf
     obtain⟨kb,kn,h3,h4⟩:=hO.num k h1;rw[h2]at h3;rw[h3]at hz;simp only at hz;rw[if_neg (by rw[h4.len];exact hl)]at hz;have hzz:=hz;rw[hz];exact⟨rfl,q,hR.above hb,hkeep _ hb,fun b z=>.inl z,hsame (.inl (by rw[hzz];simp))⟩
    ·have hkf:r.kf (bt l 1)=none:=by
      cases hkf:r.kf (bt l 1) with
      | none=>rfl
      | some p=>
       obtain⟨kb,kn⟩:=p;obtain⟨i,hi,_⟩:=hO.hit hob hkf;rw[hf]at hi;cases hi
     rw[hkf]at hz;simp only at hz;rw[if_pos (by rw[hcnt];exact h4)]at hz;have hzz:=hz;rw[hz];exact⟨rfl,q,hR.above hb,hkeep _ hb,fun b z=>.inl z,hsame (.inl (by rw[hzz];simp))⟩
    ·have hz':rhearZ r l=(0,-1):=by
      rw[hz]
      cases hkf:r.kf (bt l 1) with
      | none=>
       have hm:=hO.miss hkf;rcases hbg with⟨h1,_⟩|⟨_,h2,_⟩
       ·rw[hm]at h1;cases h1
       ·simp only
        rw[if_neg (by rw[hcnt];exact h2)]
      | some p=>
       obtain⟨kb,kn⟩:=p;obtain⟨i,hi,hi2,hi3,hi4⟩:=hO.hit hob hkf;rcases hbg with⟨h1,h2,_⟩|⟨h1,_⟩
       ·rw[hi]at h1
        cases h1
        simp only;rw[if_pos (by rw[hi4.len,h2])]
       ·rw[hi]at h1;cases h1
     rw[hz'];exact⟨rfl,q',hR',hbu,hft,fun r' hst=>sim.hears ok hs' hp hk1 htk hbg hkt hst⟩
def Rcv.apartG(r:Rcv):Prop:=(r.un.map Un.g).Nodup
theorem HStep.apartG{r r':Rcv}{l:List Gf.F}(h:HStep r l r')(ha:r.apartG):r'.apartG:=by
 rcases h with⟨_,rfl⟩|⟨_,_,_,rfl⟩|⟨_,_,_,_,_,kb,k,r1,k',hbg,_,hend⟩
 ·exact ha
 ·exact ha
 ·have hu:r1.un=r.un:=hbg.facts.2.2.2.2.1
  rcases hend with⟨_,rfl⟩|⟨_,g,v,hg,rfl⟩
  ·show(r1.un.map Un.g).Nodup
   rw[hu];exact ha
  ·show((r1.un++[_]).map Un.g).Nodup
   rw[hu,List.map_append,List.nodup_append];refine⟨ha,by simp,fun x hx y hy e=>?_⟩;simp only[List.map_cons,List.map_nil,List.mem_singleton]at hy;obtain⟨u,hu',rfl⟩:=List.mem_map.1 hx;exact hg u hu' (by rw[e,hy])
theorem HStep.short{r r':Rcv}{l:List Gf.F}(h:HStep r l r')(ha:∀ u ∈ r.un,u.l.length<=255):∀ u ∈ r'.un,u.l.length<=255:=by
 rcases h with⟨_,rfl⟩|⟨_,_,_,rfl⟩|⟨_,hp,_,_,_,kb,k,r1,k',hbg,hkept,hend⟩
 ·exact ha
 ·exact ha
 ·obtain⟨_,hle,_⟩:=parse_head hp
  have hf:=hbg.facts
  have hk':k'.len=k.len:=by
   rcases hkept with⟨_,rfl⟩|⟨_,q,pv,sv,_,_,rfl⟩
   ·rfl
   ·rfl
  rcases hend with⟨_,rfl⟩|⟨_,g,v,hg,rfl⟩
  ·show ∀ u ∈ r1.un,_
   rw[hf.2.2.2.2.1];exact ha
  ·show ∀ u ∈ r1.un++[_],_
   rw[hf.2.2.2.2.1];intro u hu;rcases List.mem_append.1 hu with hu|hu
   ·exact ha u hu
   ·rw[List.mem_singleton.1 hu]
    show(List.take k'.len _).length<=255;rw[List.length_take,hk',hf.1];omega
structure RpOk(p:Rp):Prop where
 sim:SimR p.r p.q
 apart:p.r.apartG
 short:∀ u ∈ p.r.un,u.l.length<=255
structure XI(A:Nat->Addr)(B0:Nat)(own:Nat->Nat)(w:World)(hb t:Nat)(hs:HS)(es:List Ent)(ps:List Pr)(qs:List Rp)(os:List Ent):Prop extends WI A B0 (RJ hb qs os) own w hb t hs es ps where
 rp:∀ i,i<qs.length->RpOk (rpat qs i)
 fewQ:qs.length<=t
 fewO:os.length<=4*t
def XStep(A:Nat->Addr)(B0:Nat)(own:Nat->Nat)(w:World)(hb t n m:Nat)(w':World):Prop:=∃ own' hs' es' ps' qs' os',XI A B0 own' w' hb t hs' es' ps' qs' os'/\ps'.length=n/\qs'.length=m/\Fr own w own' w'
def SameQs(qs qs':List Rp):Prop:=qs'.length=qs.length/\∀ j,(rpat qs' j).rb=(rpat qs j).rb/\(rpat qs' j).qb=(rpat qs j).qb
theorem SameQs.refl(qs:List Rp):SameQs qs qs:=⟨rfl,fun _=>⟨rfl,rfl⟩⟩
theorem SameQs.trans{a b c:List Rp}(h:SameQs a b)(k:SameQs b c):SameQs a c:=⟨k.1.trans h.1,fun j=>⟨(k.2 j).1.trans (h.2 j).1,(k.2 j).2.trans (h.2 j).2⟩⟩
def XStay(A:Nat->Addr)(B0:Nat)(own:Nat->Nat)(w:World)(hb t:Nat)(sv:Value)(ps:List Pr)(qs:List Rp)(w':World):Prop:=∃ own' hs' es' ps' qs' os',XI A B0 own' w' hb t hs' es' ps' qs' os'/\SamePs ps ps'/\SameQs qs qs'/\hs'.sv=sv/\Fr own w own' w'
theorem XStay.step{A:Nat->Addr}{B0:Nat}{own:Nat->Nat}{w w':World}{hb t:Nat}{sv:Value}{ps:List Pr}{qs:List Rp}(h:XStay A B0 own w hb t sv ps qs w'):XStep A B0 own w hb t ps.length qs.length w':=by
 obtain⟨own',hs',es',ps',qs',os',hI,h1,h2,-,hF⟩:=h;exact⟨own',hs',es',ps',qs',os',hI,h1.1,h2.1,hF⟩
theorem XI.more{A:Nat->Addr}{B0:Nat}{own:Nat->Nat}{w:World}{hb t t':Nat}{hs:HS}{es:List Ent}{ps:List Pr}{qs:List Rp}{os:List Ent}(h:XI A B0 own w hb t hs es ps qs os)(ht:t<=t'):XI A B0 own w hb t' hs es ps qs os:=by
 have:=h.fewQ;have:=h.fewO;exact⟨h.toWI.more ht,h.rp,by omega,by omega⟩
theorem XI.above{A:Nat->Addr}{B0:Nat}{own:Nat->Nat}{w w':World}{hb t:Nat}{hs:HS}{es:List Ent}{ps:List Pr}{qs:List Rp}{os:List Ent}(h:XI A B0 own w hb t hs es ps qs os)(k:Nat)(hbe:Below w.heap.size w w'):XI A B0 (ownN own w.heap.size k) w' hb t hs es ps qs os:=
 ⟨h.toWI.above k hbe,h.rp,h.fewQ,h.fewO⟩
theorem XI.sent{A:Nat->Addr}{B0:Nat}{own:Nat->Nat}{w w':World}{hb t t' n:Nat}{hs:HS}{es:List Ent}{ps:List Pr}{qs:List Rp}{os:List Ent}(h:XI A B0 own w hb t hs es ps qs os)(ht:t<=t')(hst:WStep A B0 (RJ hb qs os) own w hb t' n w'):XStep A B0 own w hb t' n qs.length w':=by
 obtain⟨own',hs',es',ps',hI,hl,hF⟩:=hst;have:=h.fewQ;have:=h.fewO;exact⟨own',hs',es',ps',qs,os,⟨hI,h.rp,by omega,by omega⟩,hl,rfl,hF⟩
theorem RrAt.neB{w:World}{B rb E:Nat}{r:Rrv}{cs:Array Value}(h:RrAt w B rb r)(hE:w.heap[E]?=some (.cells cs 168 (0,0))):¬ r.foot rb E:=by
 intro hb;rcases hb with q|q|q|q|⟨t,ht,q⟩|⟨i,hi,q|⟨p,hp,q⟩⟩
 ·exact ne_typ h.blk (q ▸ hE) (by decide) rfl
 ·exact own_ne h.kown q hE (by decide) rfl
 ·exact own_ne h.wown q hE (by decide) rfl
 ·exact own_ne h.town q hE (by decide) rfl
 ·obtain⟨_,⟨cs',h2⟩,_⟩:=h.objs t ht
  exact ne_typ h2 (q ▸ hE) (by decide) rfl
 ·exact own_ne (h.pown i hi) q hE (by decide) rfl
 ·obtain⟨_,⟨cs',h2⟩,_⟩:=h.rows i hi p hp
  exact ne_typ h2 (q ▸ hE) (by decide) rfl
section
variable {A:Nat->Addr}{B0:Nat}{own0:Nat->Nat}{W0 W W':World}{hb t i:Nat}{hs:HS}{es:List Ent}{ps:List Pr}{qs:List Rp}{os:List Ent}{a:Option Addr}{b o n c:Nat}{l:List Gf.F}
theorem PhG.stepP{G:Nat}{v1:Value}{rs:List Raw}{r':Rcv}(h:PhG A B0 (RJ hb qs os) own0 W0 hb hs es ps G v1 W)(hL:Lent W G v1 rs [G] 1)(hi:i<qs.length)(hbu:But ((rpat qs i).r.foot (rpat qs i).rb) W W')(hS:RcAt W' (hb+1) (rpat qs i).rb r')(ok:r'.Ok)(hf:∀ b,r'.foot (rpat qs i).rb b->(rpat qs i).r.foot (rpat qs i).rb b∨W.heap.size<=b):
 PhG A B0 (RJ hb (qs.set i {rpat qs i with r:=r'}) os) own0 W0 hb hs es ps G v1 W'/\Lent W' G v1 rs [G] 1:=by
 obtain⟨own,hJ,hF,hX⟩:=h;have hR:=hJ.rest.now
 have hX2:∀ b,(b=G∨v1.ownBlock=some b)->¬(rpat qs i).r.foot (rpat qs i).rb b:=fun b q p=>by
  have h1:=(hX b q).1;have h2:=hR.oP i b hi p;omega
 refine⟨⟨_,XJ.stepP (k:=4*i+8) hJ hi hbu hS ok (fun b q=>?_),hF.trans (Fr.but hbu (fun b _ q=>by rw[hR.oP i b hi q];omega)),fun b q=>⟨by rw[ownN_old (hX b q).2];exact(hX b q).1,Nat.lt_of_lt_of_le (hX b q).2 hbu.size⟩⟩,hL.kept hbu (fun g hg=>hX2 g (.inr hg)) (fun j hj=>?_)⟩
 ·rcases hf b q with q|q
  ·rw[ownN_old (hR.ltP hi q)];exact hR.oP i b hi q
  ·exact ownN_new q
 ·obtain rfl:j=0:=by omega
  exact hX2 G (.inl rfl)
theorem PhB.stepD{q':Rrv}(h:PhB A B0 (RJ hb qs os) own0 W0 hb hs es ps W)(hi:i<qs.length)(hbu:But ((rpat qs i).q.foot (rpat qs i).qb) W W')(hS:RrAt W' (hb+1) (rpat qs i).qb q')(hf:∀ b,q'.foot (rpat qs i).qb b->(rpat qs i).q.foot (rpat qs i).qb b∨W.heap.size<=b):
 PhB A B0 (RJ hb (qs.set i {rpat qs i with q:=q'}) os) own0 W0 hb hs es ps W':=by
 obtain⟨own,hJ,hF⟩:=h;have hR:=hJ.rest.now;refine⟨_,XJ.stepD (k:=4*i+9) hJ hi hbu hS (fun b q=>?_),hF.trans (Fr.but hbu (fun b _ q=>by rw[hR.oD i b hi q];omega))⟩;rcases hf b q with q|q
 ·rw[ownN_old (hR.ltD hi q)];exact hR.oD i b hi q
 ·exact ownN_new q
end
theorem rawP_ws{w:World}{H g c n:Nat}{Z:List Pk}(h:w.ownsRow H 33 1 (.slice (some ⟨g,0,none⟩) n c) n (Z.map fun p=>p.d.val))(hr:∀ p ∈ Z,Bs w p.d.b p.d.o p.d.l):Ws w g 0 (rawP Z):=fun i hi=>by
 have hi':i<Z.length:=by simpa [rawP] using hi
 rw[rawP_at _ _ hi'];refine⟨?_,.some _,_,rfl,fun h0=>⟨_,_,rfl,hr _ (List.mem_of_getElem? (pkat_some hi'))⟩⟩;have hn:Z.length=n:=by have:=h.1;simpa using this
 rw[Nat.zero_add,h.cellAt i (by omega),List.getElem?_map,pkat_some hi'];rfl
theorem ne_typ9{w:World}{g k:Nat}{cs cs':Array Value}{t t':TypeId}{f f':Nat×Nat}(h:w.heap[g]?=some (.cells cs t f))(h':w.heap[k]?=some (.cells cs' t' f'))(hne:t≠t'):¬ g=k:=by
 intro q;rw[q,h']at h;simp only[Option.some.injEq,Obj.cells.injEq]at h;exact hne h.2.1.symm
theorem flat_take{α:Type}(f:α->List Value)(s:Nat)(hf:∀ x,(f x).length=s):∀(xs:List α) (k:Nat),(xs.flatMap f).take (k*s)=(xs.take k).flatMap f
 | [],k=>by simp
 | x :: xs,0=>by simp
 | x :: xs,k+1=>by
  rw[List.flatMap_cons,List.take_succ_cons,List.flatMap_cons,show(k+1)*s=(f x).length+k*s by rw[hf,Nat.succ_mul];omega,List.take_length_add_append,flat_take f s hf xs k]
theorem flat_drop{α:Type}(f:α->List Value)(s:Nat)(hf:∀ x,(f x).length=s):∀(xs:List α) (k:Nat),(xs.flatMap f).drop (k*s)=(xs.drop k).flatMap f
 | [],k=>by simp
 | x :: xs,0=>by simp
 | x :: xs,k+1=>by
  rw[List.flatMap_cons,List.drop_succ_cons,show(k+1)*s=(f x).length+k*s by rw[hf,Nat.succ_mul];omega,List.drop_length_add_append,flat_drop f s hf xs k]
theorem addr0(g j:Nat):(⟨g,0,none⟩:Addr).add j=⟨g,j,none⟩:=by unfold Addr.add;split<;>simp_all
theorem addrN(g o j:Nat):(⟨g,o,none⟩:Addr).add j=⟨g,o+j,none⟩:=by unfold Addr.add;split<;>simp_all
theorem own_cell9{w:World}{B n sz:Nat}{e:TypeId}{v:Value}{xs:List Value}(h:w.ownsRow B e sz v n xs){g:Nat}(hg:v.ownBlock=some g){j:Nat}{u:Value}(hj:xs[j]?=some u):w.cell? ⟨g,j,none⟩=some u:=by
 obtain⟨h1,h2⟩:=h;rcases h2 with⟨rfl,_⟩|⟨g',cap,cur,rfl,_,hh,_,_,_,ht⟩
 ·simp[Value.ownBlock]at hg
 ·simp[Value.ownBlock]at hg
  subst hg;rw[cell_of_row w g' j _ _ _ hh];rw[<- ht,List.getElem?_take]at hj;split at hj
  ·simpa using hj
  ·cases hj
theorem own_caps{w:World}{B n c sz:Nat}{a:Addr}{e:TypeId}{xs:List Value}(h:w.ownsRow B e sz (.slice (some a) n c) n xs):n<=c/\c<=maxLen:=by
 rcases h.2 with⟨h1,_⟩|⟨g,cap,cur,h1,_,_,h4,h5,_⟩
 ·cases h1
 ·simp only[Value.slice.injEq]at h1
  rw[h1.2.2];exact⟨h4,h5⟩
theorem Tryz.info_rpart:(Tryz.prog.info? 204).map (fun i=>(i.zero,i.size,i.bytes))=some (some (.agg #[.int .i64 0,.int .i64 0,.slice none 0 0]),3,40):=by kernel_rfl
theorem Tryz.part_parts:∃ i,Tryz.prog.info? 204=some i/\i.zero=some (.agg #[.int .i64 0,.int .i64 0,.slice none 0 0])/\i.size=3/\i.bytes=40:=by
 obtain⟨i,hi,h⟩:=Option.map_eq_some_iff.1 Tryz.info_rpart;simp only[Prod.mk.injEq]at h;exact⟨i,hi,h.1,h.2.1,h.2.2⟩
theorem Tryz.app0part{w:World}{base n:Nat}{v:Value}{xs:List Value}(ty:TypeId)(a:Addr)(c:Nat)(hown:w.ownsRow base 204 3 v n xs):(Builtin.append_ #[198,198] ty #[v,.slice (some a) 0 c]).run Tryz.prog w=.ok v w:=by
 obtain⟨i,hi,_⟩:=Tryz.part_parts;rcases hown.2 with⟨rfl,rfl⟩|⟨g,cap,cur,rfl,_,_,hnc,_⟩
 ·simp[Builtin.append_,run_underlying Tryz.underlying198,sizeOf,typeInfo,hi,Builtin.lenOf,Builtin.firstCells,loadCells,loadCellsFrom]
 ·simp[Builtin.append_,run_underlying Tryz.underlying198,sizeOf,typeInfo,hi,Builtin.lenOf,Builtin.firstCells,hnc,storeCells,loadCells,loadCellsFrom]
theorem wpList_append_part0{w:World}{ops:Array Oper}{rest:List Oper}{o:Oper}{a:Act}{Q:Exit->Act->World->Prop}(hgd:o.guard=none)(s x:Operand)(ho:o.op=.call {callee:=.builtin .append,args:=#[s,x],argTypes:=#[198,198]})
 (base:Nat) (v:Value) (n:Nat) (xs:List Value) (hs:a.eval s=v) (hown:w.ownsRow base 204 3 v n xs) (ad:Addr) (c:Nat) (hx:a.eval x=.slice (some ad) 0 c)
 (h:wpList Tryz.prog ops Q rest (a.put o.dst v) w):wpList Tryz.prog ops Q (o :: rest) a w:=by
 refine wpList_plain hgd fun K hK=>?_
 have hrun:=Tryz.app0part o.type ad c hown;unfold Oper.wp;simp[execOp,ho,resolve,invoke,builtin,hs,hx,hrun,Result.andThen];exact hK _ _ h
theorem own_grown{w w':World}{o:Obj}{H H' n sz n' sz':Nat}{e e':TypeId}{v v':Value}{xs xs':List Value}(h:w.ownsRow H e sz v n xs)(h':w.ownsRow H' e' sz' v' n' xs')(hg:(w.alloc o).grownBy w' v'.ownBlock)(hne:e≠e'):w'.ownsRow H e sz v n xs:=
 own_of_block h (fun g hg'=>(grown_block hg (by have:=(h.lt g hg').2;simp;omega) (fun q=>own2_ne h h' hne g hg' q)).trans (Below.heap_alloc w o g (h.lt g hg').2))
theorem own_grown0{w w':World}{H H' n sz n' sz':Nat}{e e':TypeId}{v v':Value}{xs xs':List Value}(h:w.ownsRow H e sz v n xs)(h':w.ownsRow H' e' sz' v' n' xs')(hg:w.grownBy w' v'.ownBlock)(hne:e≠e'):w'.ownsRow H e sz v n xs:=
 own_of_block h (fun g hg'=>grown_block hg (h.lt g hg').2 (fun q=>own2_ne h h' hne g hg' q))
theorem rtake_any{B rb k:Nat}{q:Rrv}{w:World}(h:RrAt w B rb q)(fit:q.Fit)(hk:k<q.kn.length):
 Calls Tryz.prog 137 #[.pointer (some ⟨rb,0,none⟩),.int .i64 k] w fun e w'=>
  e=.returned (.tuple #[])/\∃ q',QTook q k q'/\RrAt w' B rb q'/\But (q.book rb) w w'/\∀ b,q'.foot rb b->q.foot rb b∨w.heap.size<=b:=by
 obtain⟨g,gc,hkv,z0,z1,z2⟩:=h.known hk;obtain⟨_,_,_,c3,_,_,_⟩:=h.cells;rw[hkv]at c3;obtain⟨pa,pc,hpv,_⟩:=own_form2 (h.pown k hk);rw[hpv]at z2;have hfx:=fit.part k hk;obtain⟨k1,k8,kn,n16,s1,s8⟩:=fit.cfg;have htot:=hfx.total k1;have hTr:=symN_range (S:=q.S) (len:=(prat q.kn k).len) s1;have hQl:=partsN_le (a:=symN q.S (prat q.kn k).len) k1;have hlen:=hfx.len;have hnum:=hfx.num;have hfew:=fit.few;have HH:Hid (RrAt w B rb q):=h;have HFIT:Hid q.Fit:=fit;have HFX:Hid ((prat q.kn k).Fit q.K q.S):=hfx;have HSY:Hid (∀ W,Calls Tryz.prog 89 #[.agg #[.int .i64 (q.K:Int),.int .i64 (q.N:Int),.int .i64 (q.S:Int)],.int .i64 ((prat q.kn k).len:Int)] W fun e w'=>e=.returned (.int .i64 (symN q.S (prat q.kn k).len:Int))/\Below W.heap.size W w'):=fun W=>rsymbols_any q.K q.N q.S _ s1 s8 (by omega) W
 have HBL:Hid (∀ W,Calls Tryz.prog 94 #[.agg #[.int .i64 (q.K:Int),.int .i64 (q.N:Int),.int .i64 (q.S:Int)],.int .i64 ((prat q.kn k).len:Int)] W fun e w'=>e=.returned (.int .i64 (partsN (symN q.S (prat q.kn k).len) q.K:Int))/\Below W.heap.size W w'):=fun W=>rblocks_any q.K q.N q.S _ fit.cfg (by omega) W
 have HCS:Hid (∀ X,RrAt X B rb q->X.cell? ⟨rb,0,none⟩=some (.int .i64 (q.K:Int))/\X.cell? ⟨rb,1,none⟩=some (.int .i64 (q.N:Int))/\X.cell? ⟨rb,2,none⟩=some (.int .i64 (q.S:Int))):=fun X hX=>by
  obtain⟨q0,q1,q2,_⟩:=hX.cells;exact⟨q0,q1,q2⟩
 have HWH:Hid (symN q.S (prat q.kn k).len<=(prat q.kn k).ps.length->∀ b,b<partsN (symN q.S (prat q.kn k).len) q.K->(ofB (prat q.kn k).ps b).length=srcN q.K (symN q.S (prat q.kn k).len) b):=htot.2;have HPS:Hid (∀ b,placesB (plcZ (ofB (prat q.kn k).ps b)) (ofB (prat q.kn k).ps b).length=true):=fun b=>plcs_fit hfx b
 have HPK:Hid (∀ X,RrAt X B rb q->∀ i,i<(prat q.kn k).ps.length->∃ pg,pa=some ⟨pg,0,none⟩/\X.cell? ⟨pg,i*7+3,none⟩=some (.int .i64 ((pkat (prat q.kn k).ps i).blk:Int))/\X.cell? ⟨pg,i*7+4,none⟩=some (.int .i64 ((pkat (prat q.kn k).ps i).plc:Int))/\X.cell? ⟨pg,i*7+5,none⟩=some (pkat (prat q.kn k).ps i).d.val):=fun X hX i hi=>by
  have ho:=hX.pown k hk;obtain⟨pg,pc',hv,_,_⟩:=ho.form (by omega);rw[hv]at ho;have hv':=hv;rw[hpv]at hv';simp only[Value.slice.injEq]at hv';exact⟨pg,hv'.1,pk_cells ho rfl hi⟩
 have HRW:Hid (∀ X,RrAt X B rb q->∀ p ∈(prat q.kn k).ps,Bs X p.d.b p.d.o p.d.l/\p.d.l.length=q.S):=fun X hX p hp=>⟨(hX.rows k hk p hp).2.2,(hfx.each p hp).2.2⟩
 have hL2:=htot.1;obtain⟨xn,hxn⟩:∃ x,x=(prat q.kn k).n:=⟨_,rfl⟩;obtain⟨xl,hxl⟩:∃ x,x=(prat q.kn k).len:=⟨_,rfl⟩;obtain⟨ps,hps⟩:∃ x,x=(prat q.kn k).ps:=⟨_,rfl⟩;obtain⟨L,hL⟩:∃ x,x=ps.length:=⟨_,rfl⟩;have HXN:Hid (xn=(prat q.kn k).n):=hxn;have HXL:Hid (xl=(prat q.kn k).len):=hxl;have HPE:Hid (ps=(prat q.kn k).ps):=hps;have HLE:Hid (L=ps.length):=hL;rw[<- hxn]at z0 hnum;rw[<- hxl]at z1 HSY HBL HWH hTr hQl hlen hL2;rw[<- hps]at z2 HWH HPS HPK HRW hL2;rw[<- hL]at z2 HWH HPK hL2;obtain⟨T,hT⟩:∃ x,x=symN q.S xl:=⟨_,rfl⟩;have HT:Hid (T=symN q.S xl):=hT;rw[<- hT]at HSY HBL HWH hTr hQl hL2;obtain⟨Q,hQ⟩:∃ x,x=partsN T q.K:=⟨_,rfl⟩;have HQ:Hid (Q=partsN T q.K):=hQ;rw[<- hQ]at HBL HWH hQl;have HQT:Hid (Q=partsN (symN q.S (prat q.kn k).len) q.K/\T=symN q.S (prat q.kn k).len/\L=(prat q.kn k).ps.length):=⟨by rw[hQ,hT,hxl],by rw[hT,hxl],by rw[hL,hps]⟩;have HGK:Hid (q.kv=.slice (some ⟨g,0,none⟩) q.kn.length gc):=hkv;have hk1:(k:Int)<(q.kn.length:Int):=by omega
 have hk0:(0:Int)<=(k:Int):=by omega
 have hX:=heap_alloc_new w (.cells #[.int .i64 xn,.int .i64 xl,.slice pa L pc] 204);have hbX:=(Below.refl w.heap.size w).alloc (Nat.le_refl _) (.cells #[.int .i64 xn,.int .i64 xl,.slice pa L pc] 204);have h2:=h.above hbX;obtain⟨m,hm⟩:∃ x,x=q.kn.length:=⟨_,rfl⟩;have HM:Hid (m=q.kn.length):=hm;rw[<- hm]at c3 hk1 hfew;clear hxn hxl hps hL hT hQ hkv hpv htot hfx h fit hm;go_enter Tryz.func137,Tryz.ntmps137;go_upto_region 1 with fail;generalize w.alloc (.cells #[.int .i64 xn,.int .i64 xl,.slice pa L pc] 204)=W at *;have HX:Hid (W.heap[w.heap.size]?=some (.cells #[.int .i64 xn,.int .i64 xl,.slice pa L pc] 204 (0,0))):=hX;have HH2:Hid (RrAt W B rb q):=h2;have HBX:Hid (Below w.heap.size w W):=hbX;obtain⟨xb,hxb⟩:∃ x,x=w.heap.size:=⟨_,rfl⟩;have HXB:Hid (xb=w.heap.size):=hxb;rw[<- hxb]at HX hX ⊢;obtain⟨y0,y1,y2⟩:=HCS.out W h2;have x1:W.cell? ⟨xb,1,none⟩=some (.int .i64 xl):=cell_of_row W _ 1 _ _ _ hX;have x2:W.cell? ⟨xb,2,none⟩=some (.slice pa L pc):=cell_of_row W _ 2 _ _ _ hX;clear z0 z1 z2 c3 hX hbX h2 hxb
 go_region_held3 (fun w'=>w'.cell? ⟨rb,0,none⟩=some (.int .i64 (q.K:Int))/\w'.cell? ⟨rb,1,none⟩=some (.int .i64 (q.N:Int))/\w'.cell? ⟨rb,2,none⟩=some (.int .i64 (q.S:Int))/\w'.cell? ⟨xb,1,none⟩=some (.int .i64 xl)/\w'.cell? ⟨xb,2,none⟩=some (.slice pa L pc)) (first | go_keep|exact hkeep) (first
  | (go_at_call 89;refine(HSY.out _).mono ?_;rintro e w1 ⟨rfl,hb1⟩;have hkeep:w1.cell? ⟨rb,0,none⟩=some (.int .i64 (q.K:Int))/\w1.cell? ⟨rb,1,none⟩=some (.int .i64 (q.N:Int))/\w1.cell? ⟨rb,2,none⟩=some (.int .i64 (q.S:Int))/\w1.cell? ⟨xb,1,none⟩=some (.int .i64 xl)/\w1.cell? ⟨xb,2,none⟩=some (.slice pa L pc):=⟨by rw[hb1.cell (lt_of_cell y0)];exact y0,by rw[hb1.cell (lt_of_cell y1)];exact y1,by rw[hb1.cell (lt_of_cell y2)];exact y2,by rw[hb1.cell (lt_of_cell x1)];exact x1,by rw[hb1.cell (lt_of_cell x2)];exact x2⟩))
 have hb1':=Below.undraw hb1;have hB1:=HBX.out.trans (hb1'.mono HBX.out.size);have hX1:=(hb1'.block _ (lt_of_block HX.out)).trans HX.out;have hH1:=HH2.out.above hb1';clear y0 y1 y2 x1 x2 hkeep hb1 hb1';by_cases hw:L<T
 ·have hw1:(L:Int)<(T:Int):=by omega
  go_wp2_with fail
  (try simp only[Exit.inBlock,Exit.then])
  refine bodyPost_ret (results_none rfl _ _ _) rfl ?_;refine⟨rfl,q,.inl ⟨?_,rfl⟩,hH1,Below.but hB1 _ (fun i h1 h2=>absurd h1 h2),fun b z=>.inl z⟩;rw[<- HQT.out.2.1,<- HQT.out.2.2];exact hw
 ·have hw1:¬(L:Int)<(T:Int):=by omega
  have HW8:Hid (∀ b,b<Q->(ofB ps b).length=srcN q.K T b):=HWH.out (by omega);have HB1:Hid (Below w.heap.size w w1):=hB1;have HX1:Hid (w1.heap[xb]?=some (.cells #[.int .i64 xn,.int .i64 xl,.slice pa L pc] 204 (0,0))):=hX1;have HH1:Hid (RrAt w1 B rb q):=hH1;have HCT:Hid (∀ b,(prat q.kn k).cat q.K q.S (b+1)=(prat q.kn k).cat q.K q.S b++(prat q.kn k).part q.S b (ofB ps b).length):=fun b=>by rw[HPE.out];rfl
  have HPT:Hid (∀ b j,(prat q.kn k).part q.S b (j+1)=(prat q.kn k).part q.S b j++symR (plcZ (ofB ps b)) (rawP (ofB ps b)) (ofB ps b).length (by8 j) q.S):=fun b j=>by rw[HPE.out];rfl
  have HCL:Hid (∀ b,b<=Q->((prat q.kn k).cat q.K q.S b).length=min (b*q.K) T*q.S):=fun b hb=>by
   rw[Prt.cat_len,<- HPE.out,sumN_congr b (fun b' hb'=>HW8.out b' (by omega)),sum_src]
  have HC0:Hid ((prat q.kn k).cat q.K q.S 0=[]):=rfl;have HP0:Hid (∀ b,(prat q.kn k).part q.S b 0=[]):=fun b=>rfl
  have HPL:Hid (∀ b j,((prat q.kn k).part q.S b j).length=j*q.S):=fun b j=>Prt.part_len ..
  obtain⟨cat,hcat⟩:∃ x,x=(prat q.kn k).cat q.K q.S:=⟨_,rfl⟩;have HCAT:Hid (cat=(prat q.kn k).cat q.K q.S):=hcat;rw[<- hcat]at HCT HCL HC0;clear hcat;generalize (prat q.kn k).part q.S=part at *;obtain⟨iU,hiU,hiU0,hiU1,hiU2⟩:=Tryz.u8_parts;obtain⟨iI,hiI,hiI0,hiI1,hiI2⟩:=Tryz.int_parts;obtain⟨iB,hiB,hiB0,hiB1,hiB2⟩:=Tryz.bytes_parts;clear hB1 hX1 hH1 HX HH2 HBX HWH HSY;go_wp2_with fail
  go_loopw[5,6,7,8,9,10,11] (fun va t _ _ _ _ _ wr=>∃ b:Nat,b<=Q/\t=.int .i64 b/\wr.ownsRow w1.heap.size 5 1 va (cat b).length (encL (cat b))/\Below w1.heap.size w1 wr) (fun _ t _ _ _ _ _ _=>Q - (intOf t).toNat)
  case atStart=>exact⟨0,by omega,rfl,by rw[HC0.out];exact World.ownsRow_nil ..,Below.refl _ _⟩
  case round=>
   obtain⟨b,hb,rfl,hown,hbr⟩:=hrel;have hr:=HH1.out.above hbr;obtain⟨y0,y1,y2⟩:=HCS.out wr hr;have hXr:=(hbr.block _ (lt_of_block HX1.out)).trans HX1.out;have x1:wr.cell? ⟨xb,1,none⟩=some (.int .i64 xl):=cell_of_row wr _ 1 _ _ _ hXr;obtain⟨aa,ac,hvv,_⟩:=own_form2 hown;obtain⟨wA,hwA⟩:∃ x,x=wr:=⟨wr,rfl⟩;subst hwA;obtain rfl:=hvv;obtain⟨CN,hCN⟩:∃ x,x=(cat b).length:=⟨_,rfl⟩;have hCN2:=HCL.out b hb;rw[<- hCN]at hown hCN2 ⊢;have HCN:Hid (CN=(cat b).length):=hCN
   have hCN3:CN<=2056:=by
    rw[hCN2];have:=Nat.mul_le_mul (Nat.min_le_right (b*q.K) T) (Nat.le_refl q.S);have:=Nat.mul_le_mul (show T<=257 by omega) s8;omega
   have HBR:Hid (Below w1.heap.size w1 wA):=hbr;have HOW:Hid (wA.ownsRow w1.heap.size 5 1 (.slice aa CN ac) CN (encL (cat b))):=hown;clear hXr hr hbr hown hCN hCN2;go_upto_region 4 with fail
   go_region_held3 (fun w'=>w'.cell? ⟨rb,0,none⟩=some (.int .i64 (q.K:Int))/\w'.cell? ⟨rb,1,none⟩=some (.int .i64 (q.N:Int))/\w'.cell? ⟨rb,2,none⟩=some (.int .i64 (q.S:Int))/\w'.cell? ⟨xb,1,none⟩=some (.int .i64 xl)) (first | go_keep|exact hkeep) (first
    | (go_at_call 94;refine(HBL.out _).mono ?_;rintro e w2 ⟨rfl,hb2⟩;have hkeep:w2.cell? ⟨rb,0,none⟩=some (.int .i64 (q.K:Int))/\w2.cell? ⟨rb,1,none⟩=some (.int .i64 (q.N:Int))/\w2.cell? ⟨rb,2,none⟩=some (.int .i64 (q.S:Int))/\w2.cell? ⟨xb,1,none⟩=some (.int .i64 xl):=⟨by rw[hb2.cell (lt_of_cell y0)];exact y0,by rw[hb2.cell (lt_of_cell y1)];exact y1,by rw[hb2.cell (lt_of_cell y2)];exact y2,by rw[hb2.cell (lt_of_cell x1)];exact x1⟩))
   have hb2':=Below.undraw hb2;have HB2:Hid (Below w1.heap.size w1 w2):=HBR.out.trans (hb2'.mono HBR.out.size);have HO2:Hid (w2.ownsRow w1.heap.size 5 1 (.slice aa CN ac) CN (encL (cat b))):=own_of_block HOW.out (fun g hg=>hb2'.block g (HOW.out.lt g hg).2);clear y0 y1 y2 x1 hkeep hb2 hb2' HBR HOW;by_cases hlt:b<Q
   ·have hlt1:(b:Int)<(Q:Int):=by omega
    go_wp2_with fail
    go_loopw[7,8,9] (fun v7 v8 t wq=>∃ i:Nat,i<=L/\t=.int .i64 i/\wq.ownsRow w1.heap.size 3 1 v7 (ofB (ps.take i) b).length (encZ (plcZ (ofB (ps.take i) b)))/\wq.ownsRow w1.heap.size 33 1 v8 (ofB (ps.take i) b).length ((ofB (ps.take i) b).map fun p=>p.d.val)/\wq.ownsRow w1.heap.size 5 1 (.slice aa CN ac) CN (encL (cat b))/\Below w1.heap.size w1 wq) (fun _ _ t _=>L - (intOf t).toNat)
    case atStart=>exact⟨0,by omega,rfl,World.ownsRow_nil ..,World.ownsRow_nil ..,HO2.out,HB2.out⟩
    case round=>
     clear HB2 HO2;obtain⟨i,hi,rfl,h7,h8,h5,hbq⟩:=hrel;have hXr:=(hbq.block _ (lt_of_block HX1.out)).trans HX1.out;have x2:wr.cell? ⟨xb,2,none⟩=some (.slice pa L pc):=cell_of_row wr _ 2 _ _ _ hXr;obtain⟨a7,c7,hv7,_⟩:=own_form2 h7;obtain⟨a8,c8,hv8,_⟩:=own_form2 h8;obtain⟨wB,hwB⟩:∃ x,x=wr:=⟨wr,rfl⟩;subst hwB;obtain rfl:=hv7;obtain rfl:=hv8;by_cases hil:i<L
     ·have hil1:(i:Int)<(L:Int):=by omega
      have hil0:(0:Int)<=(i:Int):=by omega
      obtain⟨pg,hpg,p3,p4,p5⟩:=HPK.out wB (HH1.out.above hbq) i hil;subst hpg
      have HTK:Hid (ofB (ps.take (i+1)) b=ofB (ps.take i) b++(if(pkat ps i).blk=b then [pkat ps i] else [])):=by
       show _=_;rw[take_pk (by rw[<- HLE.out];exact hil),ofB_snoc]
      have hZl:(ofB (ps.take i) b).length<=257:=by
       have h1:(ofB (ps.take i) b).length<=(ps.take i).length:=List.length_filter_le _ _;rw[List.length_take]at h1;omega
      generalize ofB (ps.take i) b=Z at *;obtain⟨⟨bk,pl,⟨db,do_,dc,dl⟩⟩,hpk⟩:∃ x,x=pkat ps i:=⟨_,rfl⟩;rw[<- hpk]at p3 p4 p5 HTK;unfold Row.val at p5;simp only at p3 p4 p5 HTK;obtain⟨dn,hdn⟩:∃ x,x=dl.length:=⟨_,rfl⟩;rw[<- hdn]at p5;have HDN:Hid (dn=dl.length):=hdn;obtain⟨zn,hzn⟩:∃ x,x=Z.length:=⟨_,rfl⟩;rw[<- hzn]at h7 h8 hZl ⊢;have HZN:Hid (zn=Z.length):=hzn
      have HP5:Hid (∀ X,RrAt X B rb q->X.cell? ⟨pg,i*7+5,none⟩=some (.slice (some ⟨db,do_,none⟩) dn dc)):=fun X hX=>by
       obtain⟨pg2,hpg2,_,_,p5'⟩:=HPK.out X hX i hil;simp only[Option.some.injEq,Addr.mk.injEq]at hpg2;rw[<- hpg2.1,<- hpk]at p5';rw[hdn];exact p5'
      clear hpk hdn hzn;by_cases hbb:bk=b
      ·subst hbb
       have HTE:Hid (ofB (ps.take (i+1)) bk=Z++[⟨bk,pl,⟨db,do_,dc,dl⟩⟩]):=by show _=_;rw[HTK.out,if_pos rfl]
       clear HTK;have hs5:=hbq.size;have HMX:Hid (zn+1<=maxLen):=by show _<=_;unfold maxLen;omega
       have HC1:Hid (∀ X:World,∀ g' j v,X.cell? ⟨g',j,none⟩=some v->X.cell? ⟨g',j,none⟩=some v):=fun _ _ _ _ h=>h
       generalize hEZ:encZ (plcZ Z)=EZ at h7;generalize hEV:(Z.map fun p=>p.d.val)=EV at h8;have HEZ:Hid (encZ (plcZ Z)=EZ):=hEZ;have HEV:Hid ((Z.map fun p=>p.d.val)=EV):=hEV;clear hEZ hEV;go_wp2_with (at_builtin;refine wpList_append_lies _ rfl _ _ _ rfl w1.heap.size 3 iI (.int .i64 0) 1 8 Tryz.underlying75 hiI hiI0 hiI1 hiI2 rfl (by omega) (.slice a7 zn c7) zn EZ rfl (h7.alloc _) ⟨wB.heap.size,0,none⟩ 1 1 [.int .i64 pl] rfl rfl (cell_one_at wB _ _ _ rfl) (by intro u hu;simp at hu;subst hu;rfl) (by omega) HMX.out (by omega) (by simp;omega) _ rfl ?_);intro g6 cap6 w6 hown6 hgr6 hlie6 hlt6;have h8':=own_grown h8 h7 hgr6 (by decide);have h5':=own_grown h5 h7 hgr6 (by decide);have hbq':=(hbq.alloc hs5 _).grown hgr6 (by simp;omega) (fun t ht=>(h7.lt t ht).1);have hXr':=(hbq'.block _ (lt_of_block HX1.out)).trans HX1.out;have x2':w6.cell? ⟨xb,2,none⟩=some (.slice (some ⟨pg,0,none⟩) L pc):=cell_of_row w6 _ 2 _ _ _ hXr';have p5':=HP5.out w6 (HH1.out.above hbq');have hs6:=hbq'.size;clear p3 p4 p5 x2 h7 h8 h5 hbq hXr hXr' hgr6 hlie6 hlt6;go_wp2_with (at_builtin;refine wpList_append_lies _ rfl _ _ _ rfl w1.heap.size 33 iB (.slice none 0 0) 1 24 Tryz.underlying40 hiB hiB0 hiB1 hiB2 rfl (by omega) (.slice a8 zn c8) zn EV rfl (h8'.alloc _) ⟨w6.heap.size,0,none⟩ 1 1 [.slice (some ⟨db,do_,none⟩) dn dc] rfl rfl (cell_one_at w6 _ _ _ rfl) (by intro u hu;simp at hu;subst hu;rfl) (by omega) HMX.out (by omega) (by simp;omega) _ rfl ?_);intro g9 cap9 w9 hown9 hgr9 hlie9 hlt9;have h7'':=own_grown hown6 h8' hgr9 (by decide);have h5'':=own_grown h5' h8' hgr9 (by decide);have hbq'':=(hbq'.alloc hs6 _).grown hgr9 (by simp;omega) (fun t ht=>(h8'.lt t ht).1);clear h8' h5' hbq' hown6 hgr9 hlie9 hlt9 x2' p5';go_wp2_with fail
       go_roundw
       case rel=>
        have e7:w9.ownsRow w1.heap.size 3 1 (.slice (some ⟨g6,0,none⟩) (zn+1) cap6) (ofB (ps.take (i+1)) bk).length (encZ (plcZ (ofB (ps.take (i+1)) bk))):=by
         rw[HTE.out,List.length_append,<- HZN.out];have e:encZ (plcZ (Z++[⟨bk,pl,⟨db,do_,dc,dl⟩⟩]))=EZ++[.int .i64 pl]:=by rw[<- HEZ.out];simp[encZ,plcZ]
         rw[e];exact h7''
        have e8:w9.ownsRow w1.heap.size 33 1 (.slice (some ⟨g9,0,none⟩) (zn+1) cap9) (ofB (ps.take (i+1)) bk).length ((ofB (ps.take (i+1)) bk).map fun p=>p.d.val):=by
         rw[HTE.out,List.length_append,<- HZN.out];have e:((Z++[(⟨bk,pl,⟨db,do_,dc,dl⟩⟩:Pk)]).map fun p=>p.d.val)=EV++[.slice (some ⟨db,do_,none⟩) dn dc]:=by rw[<- HEV.out,HDN.out];simp[Row.val]
         rw[e];exact hown9
        (repeat apply Exists.intro)
        refine⟨⟨i+1,by omega,by go_num,e7,e8,h5'',hbq''⟩,?frame⟩
        case frame=>rw[decide_eq_true hlt];rfl
       case measure=>simp[intOf];omega
      ·have HTE:Hid (ofB (ps.take (i+1)) b=Z):=by show _=_;rw[HTK.out,if_neg hbb,List.append_nil]
       clear HTK;have hbb1:¬((bk:Int)=(b:Int)):=by omega
       go_wp2_with fail
       go_roundw
       case rel=>exact⟨i+1,by omega,by go_num,by rw[HTE.out,<- HZN.out];exact h7,by rw[HTE.out,<- HZN.out];exact h8,h5,hbq⟩
       case measure=>simp[intOf];omega
     ·obtain rfl:i=L:=by omega
      have hTL:ofB (ps.take i) b=ofB ps b:=by rw[HLE.out,List.take_length]
      rw[hTL]at h7 h8 ⊢;have hnb:=HW8.out b hlt
      have hsr:1<=srcN q.K T b/\srcN q.K T b<=8:=by
       have:=partsN_mul (T:=T) k1 (b:=b) (by rw[<- HQ.out];exact hlt);unfold srcN;omega
      rw[<- hnb]at hsr;have HPb:=HPS.out b;have HRb:Hid (∀ X,RrAt X B rb q->∀ p ∈ ofB ps b,Bs X p.d.b p.d.o p.d.l/\p.d.l.length=q.S):=fun X hX p hp=>HRW.out X hX p (ofB_mem hp).1
      have HCb:Hid (cat (b+1)=cat b++part b (ofB ps b).length):=HCT.out b;have HPb2:Hid (∀ j,part b (j+1)=part b j++symR (plcZ (ofB ps b)) (rawP (ofB ps b)) (ofB ps b).length (by8 j) q.S):=HPT.out b;generalize ofB ps b=Z at *;obtain⟨nb,hnb'⟩:∃ x,x=Z.length:=⟨_,rfl⟩;have HNB:Hid (nb=Z.length):=hnb';rw[<- hnb']at h7 h8 hsr HPb HCb HPb2 ⊢;obtain⟨g7,c7',hv7,_,_⟩:=h7.form (by omega);obtain⟨g8,c8',hv8,_,_⟩:=h8.form (by omega);simp only[Value.slice.injEq]at hv7 hv8;obtain⟨rfl,-,-⟩:=hv7;obtain⟨rfl,-,-⟩:=hv8
      have HAT:Hid (∀(X:World) (j:Nat),j<nb->X.ownsRow w1.heap.size 3 1 (.slice (some ⟨g7,0,none⟩) nb c7) nb (encZ (plcZ Z))->X.ownsRow w1.heap.size 33 1 (.slice (some ⟨g8,0,none⟩) nb c8) nb (Z.map fun p=>p.d.val)->RrAt X B rb q->Calls Tryz.prog 123 #[.slice (some ⟨g7,0,none⟩) nb c7,.slice (some ⟨g8,0,none⟩) nb c8,.int .i64 j] X fun e w'=>∃ gs cs,e=.returned (.slice (some ⟨gs,0,none⟩) q.S cs)/\w'.ownsRow X.heap.size 5 1 (.slice (some ⟨gs,0,none⟩) q.S cs) q.S (encL (symR (plcZ Z) (rawP Z) nb (by8 j) q.S))/\Below X.heap.size X w'):=fun X j hj o7 o8 hX=>by
       have hpl:(plcZ Z).length=nb:=by rw[hnb'];simp[plcZ]
       have hrl:(rawP Z).length=nb:=by rw[hnb'];simp[rawP]
       refine(at_any g7 0 c7 g8 0 c8 nb q.S (plcZ Z) (rawP Z) (j:Int) X hpl hrl (by omega) (by omega) HPb ⟨by omega,by omega⟩ (fun i hi=>?_) (by omega) (own_zs o7 hpl) (rawP_ws o8 (fun p hp=>(HRb.out X hX p hp).1))).mono ?_
       ·rw[rawP_at _ _ (by omega)]
        exact(HRb.out X hX _ (List.mem_of_getElem? (pkat_some (by omega)))).2
       ·rintro e w' ⟨v,rfl,ho,hbl⟩
        obtain⟨gs,cs,rfl,_,_⟩:=ho.form (by omega);exact⟨gs,cs,rfl,ho,hbl⟩
      have HP0':=HP0.out b;have hil1:¬(i:Int)<(i:Int):=by omega
      clear hTL hnb hnb' HPb HRb hXr;go_wp2_with fail;clear x2
      go_loopw[5,10,11] (fun v5 t _ wq=>∃ j:Nat,j<=nb/\t=.int .i64 j/\wq.ownsRow w1.heap.size 5 1 v5 (CN+j*q.S) (encL (cat b++part b j))/\wq.ownsRow w1.heap.size 3 1 (.slice (some ⟨g7,0,none⟩) nb c7) nb (encZ (plcZ Z))/\wq.ownsRow w1.heap.size 33 1 (.slice (some ⟨g8,0,none⟩) nb c8) nb (Z.map fun p=>p.d.val)/\Below w1.heap.size w1 wq) (fun _ t _ _=>nb - (intOf t).toNat)
      case atStart=>exact⟨0,by omega,rfl,by rw[Nat.zero_mul,HP0',List.append_nil];exact h5,h7,h8,hbq⟩
      case round=>
       clear h5 h7 h8 hbq HP0';obtain⟨j,hj,rfl,o5,o7,o8,hbz⟩:=hrel;obtain⟨a5,c5,hv5,_⟩:=own_form2 o5;obtain⟨wC,hwC⟩:∃ x,x=wr:=⟨wr,rfl⟩;subst hwC;obtain rfl:=hv5;by_cases hjl:j<nb
       ·have hjl1:(j:Int)<(nb:Int):=by omega
        have hjS:j*q.S<=64:=Nat.le_trans (Nat.mul_le_mul (show j<=8 by omega) s8) (by omega);obtain⟨n5,hn5⟩:∃ x,x=CN+j*q.S:=⟨_,rfl⟩;have hn52:n5<=3000:=by omega
        have HN5:Hid (n5=CN+j*q.S):=hn5;rw[<- hn5]at o5 ⊢;clear hn5 hjS;go_wp2_with fail;refine(HAT.out wC j hjl o7 o8 (HH1.out.above hbz)).mono ?_;rintro e w5 ⟨gs,cs,rfl,hoS,hbS⟩;have o5':=own_of_block o5 (fun g hg=>hbS.block g (o5.lt g hg).2);have o7':=own_of_block o7 (fun g hg=>hbS.block g (o7.lt g hg).2);have o8':=own_of_block o8 (fun g hg=>hbS.block g (o8.lt g hg).2);have hbz5:=hbz.trans (hbS.mono hbz.size);have hsz5:=hbz5.size;have HE:Hid (∀ u ∈ encL (symR (plcZ Z) (rawP Z) nb (by8 j) q.S),u.oneCell'=true):=encL_one _;have HLY:Hid ((encL (symR (plcZ Z) (rawP Z) nb (by8 j) q.S)).length=q.S*1):=by show _=_;simp only[encL,List.length_map,symR_length];omega
        have HCY:Hid (∀ i v,(encL (symR (plcZ Z) (rawP Z) nb (by8 j) q.S))[i]?=some v->w5.cell? ((⟨gs,0,none⟩:Addr).add i)=some v):=fun i v hi=>hoS.cells (g:=gs) rfl i v hi
        have HMX:Hid (n5+q.S<=maxLen):=by show _<=_;unfold maxLen;omega
        have HEN:Hid (encL (cat b++part b j)++encL (symR (plcZ Z) (rawP Z) nb (by8 j) q.S)=encL (cat b++part b (j+1))):=by
         show _=_;rw[HPb2.out j];simp[encL]
        generalize encL (symR (plcZ Z) (rawP Z) nb (by8 j) q.S)=YS at *;generalize encL (cat b++part b j)=E0 at *;clear o5 o7 o8 hbz hoS hbS HAT;go_wp2_with (at_builtin;refine wpList_append_lies _ rfl _ _ _ rfl w1.heap.size 5 iU (.int .u8 0) 1 1 Tryz.underlying33 hiU hiU0 hiU1 hiU2 rfl (by omega) (.slice a5 n5 c5) n5 E0 rfl o5' ⟨gs,0,none⟩ q.S cs YS rfl HLY.out HCY.out HE.out (by omega) HMX.out (by omega) (by omega) _ rfl ?_);intro g6 cap6 w6 hown6 hgr6 hlie6 hlt6;have o7'':=own_grown0 o7' o5' hgr6 (by decide);have o8'':=own_grown0 o8' o5' hgr6 (by decide);have hbz6:=hbz5.grown hgr6 (by omega) (fun t ht=>(o5'.lt t ht).1);clear o5' o7' o8' hgr6 hlie6 hlt6 HCY;go_wp2_with fail
        go_roundw
        case rel=>
         refine⟨j+1,by omega,by go_num,?_,o7'',o8'',hbz6⟩;rw[<- HEN.out,Nat.succ_mul,<- Nat.add_assoc,<- HN5.out];exact hown6
        case measure=>simp[intOf];omega
       ·obtain rfl:j=nb:=by omega
        have hjl1:¬(j:Int)<(j:Int):=by omega
        go_wp2_with fail
        go_roundw
        case rel=>
         refine⟨b+1,by omega,by go_num,?_,hbz⟩;rw[HCb.out,List.length_append,HPL.out,<- HCN.out];exact o5
        case measure=>simp[intOf];omega
   ·obtain rfl:b=Q:=by omega
    have hlt1:¬(b:Int)<(b:Int):=by omega
    have hCNx:xl<=CN:=by
     have e1:=HCL.out b (Nat.le_refl _);have e2:=parts_cover T k1;rw[<- HQ.out]at e2;rw[Nat.min_eq_right e2,<- HCN.out]at e1;have e3:=parts_cover xl s1;have e4:partsN xl q.S<=T:=by rw[HT.out];unfold symN;omega
     have e5:=Nat.mul_le_mul_right q.S e4;omega
    have hCN1:1<=CN:=by
     have e1:=HCL.out b (Nat.le_refl _);have e2:=parts_cover T k1;rw[<- HQ.out]at e2;rw[Nat.min_eq_right e2,<- HCN.out]at e1;have e5:=Nat.mul_le_mul (show 1<=T by omega) s1;omega
    have hr2:=HH1.out.above HB2.out;have hXr:=(HB2.out.block _ (lt_of_block HX1.out)).trans HX1.out;have hBw2:=HB1.out.trans (HB2.out.mono HB1.out.size);obtain⟨ga,ac',hav,hac,_⟩:=list_cellsK HO2.out (by omega);simp only[Value.slice.injEq]at hav;obtain⟨rfl,-,rfl⟩:=hav;have hga:=HO2.out.lt ga (by rfl);have hBsz:=HB1.out.size;have hBs:Bs w2 ga 0 (cat b):=own_bs HO2.out HCN.out.symm;obtain⟨gcs,hgcs⟩:=own_block HO2.out (g:=ga) rfl;obtain⟨dd,hdd⟩:∃ x:Row,x=⟨ga,0,ac,(cat b).take xl⟩:=⟨_,rfl⟩;have HDD:Hid (dd=⟨ga,0,ac,(cat b).take xl⟩):=hdd;have hdl:dd.l.length=xl:=by rw[hdd];show((cat b).take xl).length=xl;rw[List.length_take,<- HCN.out];omega
    have hdv:dd.val=.slice (some ⟨ga,0,none⟩) xl ac:=by unfold Row.val;rw[hdl,hdd]
    have hdb:dd.b=ga:=by rw[hdd]
    have HDB:Hid (dd.b=ga):=hdb;have HDV:Hid (dd.val=.slice (some ⟨ga,0,none⟩) xl ac):=hdv
    have HDR:Hid (∀ X:World,X.heap[ga]?=w2.heap[ga]?->BRow X B dd):=fun X hX=>by
     refine⟨?_,⟨gcs,by rw[hdb,hX];exact hgcs⟩,?_⟩
     ·rw[hdb]
      have:=HH1.out.low;have:=lt_of_block HH1.out.blk;omega
     ·rw[hdd]
      refine bs_block (w:=w2) (fun i hi=>?_) hX;rw[List.length_take]at hi;have h1:=hBs i (by omega)
      have e:at_ ((cat b).take xl) i=at_ (cat b) i:=by
       unfold at_;rw[List.getD_eq_getElem?_getD,List.getD_eq_getElem?_getD,List.getElem?_take,if_pos (by omega)]
      rw[e];exact h1
    obtain⟨ta,tc,htv,_⟩:=own_form2 hr2.town;obtain⟨wa,wc',hwv,_⟩:=own_form2 hr2.wown;obtain⟨iO,hiO,hiO0,hiO1,hiO2⟩:=Tryz.objZ_parts;have htn:q.tk.length<=1000:=HFIT.out.tk;have hwn:q.wh.length<=1000:=HFIT.out.wh;have HR2:Hid (RrAt w2 B rb q):=hr2;have HXr:Hid (w2.heap[xb]?=some (.cells #[.int .i64 xn,.int .i64 xl,.slice pa L pc] 204 (0,0))):=hXr;have HBw:Hid (Below w.heap.size w w2):=hBw2;have HTV:Hid (q.tv=.slice ta q.tk.length tc):=htv;have HWV:Hid (q.wv=.slice wa q.wh.length wc'):=hwv;have HGA:Hid (w1.heap.size<=ga/\ga<w2.heap.size/\w.heap.size<=w1.heap.size):=⟨hga.1,hga.2,hBsz⟩;have y5:w2.cell? ⟨rb,5,none⟩=some (.slice ta q.tk.length tc):=by rw[<- htv];exact cell_of_row w2 _ 5 _ _ _ hr2.blk
    have x0:w2.cell? ⟨xb,0,none⟩=some (.int .i64 xn):=cell_of_row w2 _ 0 _ _ _ hXr;have x1:w2.cell? ⟨xb,1,none⟩=some (.int .i64 xl):=cell_of_row w2 _ 1 _ _ _ hXr;have hxc:(xl:Int)<=(ac:Int):=by omega
    have hxc0:(0:Int)<=(xl:Int):=by omega
    have hOt:w2.ownsRow B 136 2 (.slice ta q.tk.length tc) q.tk.length (flat2 (tnVals q.tk)):=htv ▸ hr2.town;have hrl:=lt_of_block hr2.blk;have hBB:B<=w2.heap.size:=Nat.le_trans hr2.low (Nat.le_of_lt hrl);have HMK:Hid (∀ o,(w2.alloc o).drew.ownsRow B 136 2 (.slice ta q.tk.length tc) q.tk.length (flat2 (tnVals q.tk))):=fun o=>hOt.alloc o
    have HM3:Hid (∀ o,B<=(w2.alloc o).drew.heap.size):=fun o=>by simp;omega
    have hmo:∀ u ∈ [Value.int .i64 xn,.slice (some ⟨ga,0,none⟩) xl ac],u.oneCell'=true:=by intro u hu;simp at hu;rcases hu with rfl|rfl<;>rfl
    have hm1:q.tk.length+1<=maxLen:=by unfold maxLen;omega
    have hm2:(q.tk.length+1)*32<=140737488355328:=by omega
    have hbn3:rb≠w2.heap.size:=Nat.ne_of_lt hrl
    have HSE:Hid (∀ o w4,(w2.alloc o).drew.grownBy w4 (Value.slice ta q.tk.length tc).ownBlock->w4.cell? ⟨rb,5,none⟩=some (.slice ta q.tk.length tc)/\w4.frozen? ⟨rb,5,none⟩=false/\w4.heap[rb]?=w2.heap[rb]?):=fun o w4 hg=>by
     have hk':w4.heap[rb]?=w2.heap[rb]?:=by
      rw[grown_block hg (by simp;omega) (fun q'=>own_ne hOt q' hr2.blk (by decide) rfl)];exact Below.heap_alloc w2 o rb hrl
     have hblk4:=hk'.trans hr2.blk;exact⟨by rw[cell_of_row w4 _ 5 _ _ _ hblk4,<- htv];rfl,frozen_of_row w4 rb 5 _ _ hblk4,hk'⟩
    clear htv hwv hr2 hXr hBw2 hga hBs hgcs hdd hdl hdv hdb hOt HB2 HO2 HCL HPL HP0 HC0 HCT HPT HW8 HPS HPK HRW HBL HCS;go_upto_region 19 with fail
    go_cut[] (fun wx=>∃ tv,RrAt wx B rb (q.pushT ⟨xn,dd⟩ tv)/\But (fun b=>b=rb∨q.tv.ownBlock=some b) w wx/\wx.heap[xb]?=some (.cells #[.int .i64 xn,.int .i64 xl,.slice pa L pc] 204 (0,0))/\(∀ g,tv.ownBlock=some g->q.tv.ownBlock=some g∨w.heap.size<=g)/\w.heap.size<=wx.heap.size)
    case first=>
     go_region_law ((refine step_append_lies _ (by rfl) _ _ _ (by rfl) B 136 iO (.agg #[.int .i64 0,.slice none 0 0]) 2 32 Tryz.underlying65 hiO hiO0 hiO1 hiO2 rfl (by omega) (.slice ta q.tk.length tc) q.tk.length (flat2 (tnVals q.tk)) (by rfl) (HMK.out _) ⟨w2.heap.size,0,none⟩ 1 1 [.int .i64 xn,.slice (some ⟨ga,0,none⟩) xl ac] (by rfl) rfl (cell_two_at w2 _ _ _ _ rfl) hmo Nat.one_pos hm1 hm2 (HM3.out _) (w2.heap.size+1) (by simp) ?_;intro g2 cap2 w4 hown4 hgr4 hlie4 hlt4;have hf64:=(HSE.out _ _ hgr4).2.1;have hc64:=(HSE.out _ _ hgr4).1))
     all_goals
      obtain⟨_,_,hrb4⟩:=HSE.out _ _ hgr4;have hb4:But (fun b=>(Value.slice ta q.tk.length tc).ownBlock=some b) w2 w4:=((But.refl _ w2).alloc _).drew.grown hgr4 (fun k hk=>.inl hk);have hblk4:=hrb4.trans HR2.out.blk;have h5:=heap_setCell_same w4 rb 5 _ _ (.slice (some ⟨g2,0,none⟩) (q.tk.length+1) cap2) hblk4;have hb5:But (fun b=>b=rb∨q.tv.ownBlock=some b) w2 (w4.setCell ⟨rb,5,none⟩ (.slice (some ⟨g2,0,none⟩) (q.tk.length+1) cap2)):=But.setCell (hb4.wide (fun b _ z=>.inr (by rw[HTV.out];exact z))) (p:=⟨rb,5,none⟩) (.inl (.inl rfl)) _;have ho5:=own_of_block hown4 (fun g' hg'=>Below.heap_setCell w4 ⟨rb,5,none⟩ (.slice (some ⟨g2,0,none⟩) (q.tk.length+1) cap2) g' (own_ne hown4 hg' hblk4 (by decide)));obtain⟨_,⟨gcs,hgc5⟩,_⟩:=HDR.out w2 rfl;rw[HDB.out]at hgc5
      have hga5:=hb5.block ga HGA.out.2.1 (fun z=>by
       rcases z with z|z
       ·exact ne_typ9 hgc5 HR2.out.blk (by decide) z
       ·exact own_ne HR2.out.town z hgc5 (by decide) rfl)
      have hxb5:=hb5.block xb (lt_of_block HXr.out) (fun z=>by
       rcases z with z|z
       ·exact ne_typ9 HXr.out HR2.out.blk (by decide) z
       ·exact own_ne HR2.out.town z HXr.out (by decide) rfl)
      have hR5:=HR2.out.pushT (t:=⟨xn,dd⟩) hb5 h5 (by rw[HDV.out];exact ho5) (HDR.out _ hga5);have hbw5:But (fun b=>b=rb∨q.tv.ownBlock=some b) w _:=(Below.but HBw.out _ (fun i h1 h2=>absurd h1 h2)).trans hb5;have hsz2:=HBw.out.size
      have hg2:∀ g',(Value.slice (some ⟨g2,0,none⟩) (q.tk.length+1) cap2).ownBlock=some g'->q.tv.ownBlock=some g'∨w.heap.size<=g':=fun g' hg'=>by
       have e:g2=g':=by simpa [Value.ownBlock] using hg'
       subst e;rcases hlie4 with z|z
       ·exact .inl (by rw[HTV.out];exact z)
       ·exact .inr (by omega)
      go_wp2_with fail
      go_meet
      exact⟨_,hR5,hbw5,hxb5.trans HXr.out,hg2,hbw5.size⟩
    case rest=>
     obtain⟨tv,hR3,hb3,hX3,htvn,hsz3⟩:=hcut;obtain⟨w3,rfl⟩:∃ x,x=wc:=⟨wc,rfl⟩;clear HMK HM3 hmo hm1 hm2 hbn3 HSE y5 x0 x1 HR2 HXr HBw HTV HDR;have hOw:w3.ownsRow B 3 1 (.slice wa q.wh.length wc') q.wh.length (q.wh.map fun n:Nat=>Value.int .i64 n):=HWV.out ▸ hR3.wown;have hrl3:=lt_of_block hR3.blk;have hBB3:B<=w3.heap.size:=Nat.le_trans hR3.low (Nat.le_of_lt hrl3);have y4:w3.cell? ⟨rb,4,none⟩=some (.slice wa q.wh.length wc'):=by rw[<- HWV.out];exact cell_of_row w3 _ 4 _ _ _ hR3.blk
     have x0:w3.cell? ⟨xb,0,none⟩=some (.int .i64 xn):=cell_of_row w3 _ 0 _ _ _ hX3;have HMK:Hid (∀ o,(w3.alloc o).drew.ownsRow B 3 1 (.slice wa q.wh.length wc') q.wh.length (q.wh.map fun n:Nat=>Value.int .i64 n)):=fun o=>hOw.alloc o
     have HM3:Hid (∀ o,B<=(w3.alloc o).drew.heap.size):=fun o=>by simp;omega
     have hmo:∀ u ∈ [Value.int .i64 xn],u.oneCell'=true:=by intro u hu;simp at hu;subst hu;rfl
     have hm1:q.wh.length+1<=maxLen:=by unfold maxLen;omega
     have hm2:(q.wh.length+1)*8<=140737488355328:=by omega
     have hbn3:rb≠w3.heap.size:=Nat.ne_of_lt hrl3
     have HSE:Hid (∀ o w4,(w3.alloc o).drew.grownBy w4 (Value.slice wa q.wh.length wc').ownBlock->w4.cell? ⟨rb,4,none⟩=some (.slice wa q.wh.length wc')/\w4.frozen? ⟨rb,4,none⟩=false/\w4.heap[rb]?=w3.heap[rb]?):=fun o w4 hg=>by
      have hk':w4.heap[rb]?=w3.heap[rb]?:=by
       rw[grown_block hg (by simp;omega) (fun q'=>own_ne hOw q' hR3.blk (by decide) rfl)];exact Below.heap_alloc w3 o rb hrl3
      have hblk4:=hk'.trans hR3.blk;exact⟨by rw[cell_of_row w4 _ 4 _ _ _ hblk4,<- HWV.out];rfl,frozen_of_row w4 rb 4 _ _ hblk4,hk'⟩
     have HR3:Hid (RrAt w3 B rb (q.pushT ⟨xn,dd⟩ tv)):=hR3;have HB3:Hid (But (fun b=>b=rb∨q.tv.ownBlock=some b) w w3):=hb3;have HTN:Hid (∀ g,tv.ownBlock=some g->q.tv.ownBlock=some g∨w.heap.size<=g):=htvn;clear hR3 hb3 hX3 htvn hOw;go_upto_region 20 with fail
     go_cut[] (fun wx=>∃ wv,RrAt wx B rb ((q.pushT ⟨xn,dd⟩ tv).pushW xn wv)/\But (fun b=>b=rb∨q.tv.ownBlock=some b∨q.wv.ownBlock=some b) w wx/\(∀ g,wv.ownBlock=some g->q.wv.ownBlock=some g∨w.heap.size<=g)/\w.heap.size<=wx.heap.size)
     case first=>
      go_region_law ((refine step_append_lies _ (by rfl) _ _ _ (by rfl) B 3 iI (.int .i64 0) 1 8 Tryz.underlying75 hiI hiI0 hiI1 hiI2 rfl (by omega) (.slice wa q.wh.length wc') q.wh.length (q.wh.map fun n:Nat=>Value.int .i64 n) (by rfl) (HMK.out _) ⟨w3.heap.size,0,none⟩ 1 1 [.int .i64 xn] (by rfl) rfl (cell_one_at w3 _ _ _ rfl) hmo Nat.one_pos hm1 hm2 (HM3.out _) (w3.heap.size+1) (by simp) ?_;intro g2 cap2 w4 hown4 hgr4 hlie4 hlt4;have hf64:=(HSE.out _ _ hgr4).2.1;have hc64:=(HSE.out _ _ hgr4).1))
      all_goals
       obtain⟨_,_,hrb4⟩:=HSE.out _ _ hgr4;have hb4:But (fun b=>(Value.slice wa q.wh.length wc').ownBlock=some b) w3 w4:=((But.refl _ w3).alloc _).drew.grown hgr4 (fun k hk=>.inl hk);have hblk4:=hrb4.trans HR3.out.blk;have h5:=heap_setCell_same w4 rb 4 _ _ (.slice (some ⟨g2,0,none⟩) (q.wh.length+1) cap2) hblk4;have hb5:But (fun b=>b=rb∨(q.pushT ⟨xn,dd⟩ tv).wv.ownBlock=some b) w3 (w4.setCell ⟨rb,4,none⟩ (.slice (some ⟨g2,0,none⟩) (q.wh.length+1) cap2)):=But.setCell (hb4.wide (fun b _ z=>.inr (by show q.wv.ownBlock=some b;rw[HWV.out];exact z))) (p:=⟨rb,4,none⟩) (.inl (.inl rfl)) _;have ho5:=own_of_block hown4 (fun g' hg'=>Below.heap_setCell w4 ⟨rb,4,none⟩ (.slice (some ⟨g2,0,none⟩) (q.wh.length+1) cap2) g' (own_ne hown4 hg' hblk4 (by decide)));have hR5:=HR3.out.pushW (n:=xn) hb5 h5 ho5;have hbw5:But (fun b=>b=rb∨q.tv.ownBlock=some b∨q.wv.ownBlock=some b) w _:=(HB3.out.wide (fun b _ z=>z.imp id .inl)).trans (hb5.wide (fun b _ z=>z.imp id .inr))
       have hg2:∀ g',(Value.slice (some ⟨g2,0,none⟩) (q.wh.length+1) cap2).ownBlock=some g'->q.wv.ownBlock=some g'∨w.heap.size<=g':=fun g' hg'=>by
        have e:g2=g':=by simpa [Value.ownBlock] using hg'
        subst e;rcases hlie4 with z|z
        ·exact .inl (by rw[HWV.out];exact z)
        ·exact .inr (by omega)
       go_wp2_with fail
       go_meet
       exact⟨_,hR5,hbw5,hg2,hbw5.size⟩
     case rest=>
      obtain⟨wv,hR5,hb5,hwvn,hsz5⟩:=hcut;obtain⟨w5,rfl⟩:∃ x,x=wc:=⟨wc,rfl⟩;clear HMK HM3 hmo hm1 hm2 hbn3 HSE y4 x0 HR3 HB3;obtain⟨iP,hiP,hiP0,hiP1,hiP2⟩:=Tryz.part_parts
      have hK5:w5.ownsRow B 204 3 (.slice (some ⟨g,0,none⟩) m gc) m (q.kn.flatMap Prt.cells):=by
       have:=hR5.kown
       change w5.ownsRow B _ 3 q.kv q.kn.length (q.kn.flatMap Prt.cells)at this
       rw[HGK.out,<- HM.out]at this;exact this
      obtain⟨hkc1,hkc2⟩:=own_caps hK5;have c3:w5.cell? ⟨rb,3,none⟩=some (.slice (some ⟨g,0,none⟩) m gc):=by rw[HM.out,<- HGK.out];exact cell_of_row w5 _ 3 _ _ _ hR5.blk
      have HFL:Hid ((q.kn.flatMap Prt.cells).length=m*3):=by show _=_;rw[HM.out];exact flat_len Prt.cells 3 (fun _=>rfl) q.kn
      have hkc:(k:Int)<=(gc:Int):=by omega
      have HKC:Hid (∀ X:World,Below w5.heap.size w5 X->∀ j v,(q.kn.flatMap Prt.cells)[j]?=some v->X.cell? ⟨g,j,none⟩=some v):=fun X hX j v hj=>by
       have h1:=own_cell9 hK5 rfl hj;rw[hX.cell (lt_of_cell h1)];exact h1
      have HON:Hid (∀ u ∈ q.kn.flatMap Prt.cells,u.oneCell'=true):=fun u hu=>by
       obtain⟨x,hx,hu⟩:=List.mem_flatMap.1 hu;obtain⟨i,hi⟩:=List.mem_iff_getElem?.1 hx;have hil:i<q.kn.length:=(List.getElem?_eq_some_iff.1 hi).1;rw[prat_some hil]at hi;simp only[Option.some.injEq]at hi;subst hi;obtain⟨xa,xc,hxv,_⟩:=own_form2 (hR5.pown i hil)
       change (prat q.kn i).pv=_ at hxv
       simp only[Prt.cells,List.mem_cons,List.not_mem_nil,or_false]at hu;rcases hu with rfl|rfl|rfl
       ·rfl
       ·rfl
       ·rw[hxv];rfl
      have HR5:Hid (RrAt w5 B rb ((q.pushT ⟨xn,dd⟩ tv).pushW xn wv)):=hR5;have HB5:Hid (But (fun b=>b=rb∨q.tv.ownBlock=some b∨q.wv.ownBlock=some b) w w5):=hb5;have HWN:Hid (∀ g,wv.ownBlock=some g->q.wv.ownBlock=some g∨w.heap.size<=g):=hwvn;obtain⟨FL,hFL⟩:∃ x,x=q.kn.flatMap Prt.cells:=⟨_,rfl⟩;have HFE:Hid (FL=q.kn.flatMap Prt.cells):=hFL;rw[<- hFL]at HFL HKC HON;have hrl5:=lt_of_block hR5.blk;clear hFL hR5 hb5 hwvn hK5;have hmle:m<=4:=by omega
      have hkm:k<m:=by omega
      go_upto_region 22 with fail
      go_cut[12] (fun v wx=>wx.ownsRow w5.heap.size 204 3 v k (FL.take (k*3))/\Below w5.heap.size w5 wx)
      case first=>
       by_cases hk00:k=0
       ·subst hk00
        have hap:(Builtin.append_ #[198,198] 198 #[.slice none 0 0,.slice (some ⟨g,0,none⟩) 0 gc]).run Tryz.prog w5=.ok (.slice none 0 0) w5:=Tryz.app0part _ _ _ (World.ownsRow_nil (base:=0) ..);go_wp2_with fail
        go_meet
        exact⟨World.ownsRow_nil ..,Below.refl _ _⟩
       ·have HC1:Hid (∀ j u,(FL.take (k*3))[j]?=some u->w5.cell? ((⟨g,0,none⟩:Addr).add j)=some u):=fun j u hj=>by
         rw[addr0];rw[List.getElem?_take]at hj;split at hj
         ·exact HKC.out w5 (Below.refl _ _) j u hj
         ·cases hj
        have HO1:Hid (∀ u ∈ FL.take (k*3),u.oneCell'=true):=fun u hu=>HON.out u (List.mem_of_mem_take hu)
        have HL1:Hid ((FL.take (k*3)).length=k*3):=by show _=_;rw[List.length_take,HFL.out];omega
        have HMX:Hid (0+k<=maxLen):=by show _<=_;unfold maxLen;omega
        go_wp2_with (at_builtin;refine wpList_append_lies _ rfl _ _ _ rfl w5.heap.size 204 iP (.agg #[.int .i64 0,.int .i64 0,.slice none 0 0]) 3 40 Tryz.underlying198 hiP hiP0 hiP1 hiP2 rfl (by omega) (.slice none 0 0) 0 [] rfl (World.ownsRow_nil ..) ⟨g,0,none⟩ k gc (FL.take (k*3)) rfl HL1.out HC1.out HO1.out (by omega) HMX.out (by omega) (by omega) _ rfl ?_);intro g6 cap6 w6 hown6 hgr6 hlie6 hlt6;have hb6:Below w5.heap.size w5 w6:=(Below.refl _ _).grown hgr6 (Nat.le_refl _) (fun t ht=>by simp[Value.ownBlock]at ht);go_wp2_with fail
        go_meet
        exact⟨by simpa using hown6,hb6⟩
      case rest=>
       obtain⟨hown6,hb6⟩:=hcut;obtain⟨w6,rfl⟩:∃ x,x=wc:=⟨wc,rfl⟩;obtain⟨la,lc,hlv,_⟩:=own_form2 hown6;obtain rfl:=hlv;have hR6:=HR5.out.above hb6;have c36:w6.cell? ⟨rb,3,none⟩=some (.slice (some ⟨g,0,none⟩) m gc):=by rw[hb6.cell (lt_of_cell c3)];exact c3
       have hs6:=hb6.size;have hgo:0+(k+1)*3=(k+1)*3:=by omega
       have hlowB:=HR5.out.low
       have HFIN:Hid (∀(kv:Value) (w7:World),But (fun b=>w5.heap.size<=b) w6 w7->w7.ownsRow w5.heap.size 204 3 kv (m - 1) (FL.take (k*3)++FL.drop ((k+1)*3))->(w7.cell? ⟨rb,3,none⟩=some (.slice (some ⟨g,0,none⟩) m gc)/\w7.frozen? ⟨rb,3,none⟩=false)/\∃ q',QTook q k q'/\RrAt (w7.setCell ⟨rb,3,none⟩ kv) B rb q'/\But (q.book rb) w (w7.setCell ⟨rb,3,none⟩ kv)/\∀ b,q'.foot rb b->q.foot rb b∨w.heap.size<=b):=fun kv w7 hb7 ho7=>by
        have R7:RrAt w7 B rb ((q.pushT ⟨xn,dd⟩ tv).pushW xn wv):=HR5.out.kept (fun b z=>by
         have h1:=(HR5.out.foot_lt z).2;exact(hb7.block b (by omega) (by omega)).trans (hb6.block b h1))
        have h8:=heap_setCell_same w7 rb 3 _ _ kv R7.blk;have hb8:But (fun b=>b=rb) w7 (w7.setCell ⟨rb,3,none⟩ kv):=But.setCell (S:=fun b=>b=rb) (But.refl _ _) (p:=⟨rb,3,none⟩) (.inl rfl) _
        have hfl:FL.take (k*3)++FL.drop ((k+1)*3)=(q.kn.eraseIdx k).flatMap Prt.cells:=by
         rw[HFE.out,flat_take Prt.cells 3 (fun _=>rfl),flat_drop Prt.cells 3 (fun _=>rfl),List.eraseIdx_eq_take_drop_succ,List.flatMap_append]
        rw[hfl]at ho7;have ho8:=own_of_block (own_base2 ho7 (show B<=w5.heap.size by omega)) (fun g' hg'=>Below.heap_setCell w7 ⟨rb,3,none⟩ kv g' (own_ne ho7 hg' R7.blk (by decide)));have R8:=R7.drop (k:=k) (kv:=kv) hk hb8 h8 (by show World.ownsRow _ _ _ _ kv (q.kn.length - 1) _;rw[<- HM.out];exact ho8);refine⟨⟨?_,frozen_of_row w7 rb 3 _ _ R7.blk⟩,q.took k ⟨xn,dd⟩ tv wv kv,.inr ⟨?_,ga,ac,tv,wv,kv,?_⟩,R8,?_,fun b' z=>?_⟩
        ·rw[cell_of_row w7 _ 3 _ _ _ R7.blk,HM.out,<- HGK.out];rfl
        ·rw[<- HQT.out.2.1,<- HQT.out.2.2];omega
        ·rw[HDD.out,HCAT.out,HXN.out,HXL.out,<- HQT.out.1]
        ·have e1:But (q.book rb) w w5:=HB5.out.wide (fun b' _ z=>by
          rcases z with z|z|z
          ·exact .inl z
          ·exact .inr (.inr (.inr (.inl z)))
          ·exact .inr (.inr (.inl z)))
         have e2:=e1.trans (Below.but hb6 _ (fun i h1 h2=>absurd h1 h2));have e3:=e2.then hb7 (fun i h1 h2=>by omega);exact e3.trans (hb8.wide (fun b' _ z=>.inl z))
        ·have hs5':=HGA.out.2.2
         refine Rrv.took_foot hk (fun g' hg'=>.inr ?_) HWN.out HTN.out ?_ z
         ·have:=(ho7.lt g' hg').1;omega
         ·show w.heap.size<=dd.b
          rw[HDB.out];have:=HGA.out.1;omega
       have hkw:IntKind.i64.wrap ((k:Int)+1)=((k+1:Nat):Int):=by rw[IntKind.wrap_i64];omega
       have hkc3:((k+1:Nat):Int)<=(m:Int):=by omega
       have hkc4:(0:Int)<=((k+1:Nat):Int):=by omega
       have hkc5:(m:Int)<=(gc:Int):=by omega
       clear c3;by_cases hmk:m=k+1
       ·have ho7:w6.ownsRow w5.heap.size 204 3 (.slice la k lc) (m - 1) (FL.take (k*3)++FL.drop ((k+1)*3)):=by
         rw[List.drop_of_length_le (by rw[HFL.out,hmk];exact Nat.le_refl _),List.append_nil,hmk];exact hown6
        obtain⟨⟨c37,f37⟩,HQ7⟩:=HFIN.out _ _ (But.refl _ _) ho7;have HQ7:Hid (∃ q',QTook q k q'/\RrAt (w6.setCell ⟨rb,3,none⟩ (.slice la k lc)) B rb q'/\But (q.book rb) w (w6.setCell ⟨rb,3,none⟩ (.slice la k lc))/\∀ b,q'.foot rb b->q.foot rb b∨w.heap.size<=b):=HQ7;have HOW6:Hid (w6.ownsRow w5.heap.size 204 3 (.slice la k lc) k (FL.take (k*3))):=hown6;subst hmk;clear HFIN ho7 hown6;by_cases hgc:gc=k+1
        ·subst hgc
         go_wp2_with (at_builtin;refine wpList_append_part0 rfl _ _ rfl w5.heap.size (.slice la k lc) k (FL.take (k*3)) rfl HOW6.out _ _ rfl ?_);go_wp2_with fail
         go_end0
         exact⟨rfl,HQ7.out⟩
        ·go_wp2_with (at_builtin;refine wpList_append_part0 rfl _ _ rfl w5.heap.size (.slice la k lc) k (FL.take (k*3)) rfl HOW6.out _ _ rfl ?_)
         go_wp2_with fail
         go_end0
         exact⟨rfl,HQ7.out⟩
       ·have HC1:Hid (∀ j u,(FL.drop ((k+1)*3))[j]?=some u->w6.cell? ((⟨g,(k+1)*3,none⟩:Addr).add j)=some u):=fun j u hj=>by
         rw[addrN];rw[List.getElem?_drop]at hj;exact HKC.out w6 hb6 _ u hj
        have HO1:Hid (∀ u ∈ FL.drop ((k+1)*3),u.oneCell'=true):=fun u hu=>HON.out u (List.mem_of_mem_drop hu)
        have HL1:Hid ((FL.drop ((k+1)*3)).length=(m - (k+1))*3):=by show _=_;rw[List.length_drop,HFL.out];omega
        have HMX:Hid (k+(m - (k+1))<=maxLen):=by show _<=_;unfold maxLen;omega
        go_wp2_with (at_builtin;refine wpList_append_lies _ rfl _ _ _ rfl w5.heap.size 204 iP (.agg #[.int .i64 0,.int .i64 0,.slice none 0 0]) 3 40 Tryz.underlying198 hiP hiP0 hiP1 hiP2 rfl (by omega) (.slice la k lc) k (FL.take (k*3)) rfl hown6 ⟨g,(k+1)*3,none⟩ (m - (k+1)) (gc - (k+1)) (FL.drop ((k+1)*3)) rfl HL1.out HC1.out HO1.out (by omega) HMX.out (by omega) (by omega) _ rfl ?_);intro g7 cap7 w7 hown7 hgr7 hlie7 hlt7;have hb7:But (fun b=>w5.heap.size<=b) w6 w7:=(But.refl _ _).grown hgr7 (fun t ht=>.inl (hown6.lt t ht).1);have hkm1:k+(m - (k+1))=m - 1:=by omega
        rw[hkm1]at hown7 ⊢;obtain⟨⟨c37,f37⟩,HQ7⟩:=HFIN.out _ _ hb7 hown7;have HQ7:Hid (∃ q',QTook q k q'/\RrAt (w7.setCell ⟨rb,3,none⟩ (.slice (some ⟨g7,0,none⟩) (m - 1) cap7)) B rb q'/\But (q.book rb) w (w7.setCell ⟨rb,3,none⟩ (.slice (some ⟨g7,0,none⟩) (m - 1) cap7))/\∀ b,q'.foot rb b->q.foot rb b∨w.heap.size<=b):=HQ7;clear HFIN hown7 hgr7 hlie7 hlt7 hb7 hown6 c36;go_wp2_with fail
        go_end0
        exact⟨rfl,HQ7.out⟩
def AskIs(r:Rcv)(l:List Gf.F)(z:Int×Int):Prop:=
 (r.shut=true/\l=[]/\z=(8,-1))∨(r.shut=false/\(∀ j,j<16->r.kf j=none)/\l=[]/\z=(0,-1))∨
 (r.shut=false/\∃ m kb k,m<16/\(∀ j,j<m->r.kf j=none)/\r.kf m=some (kb,k)/\l=askOf m k.len (k.lks k.ts.length)/\z=(0,-1))
theorem askOf_len(m len:Nat)(ds:List (Nat×Nat)):(askOf m len ds).length=5+2*ds.length:=by
 unfold askOf;rw[List.length_append,pair_len];simp
theorem AskIs.small{r:Rcv}{l:List Gf.F}{z:Int×Int}(h:AskIs r l z)(ok:r.Ok):l.length<=600:=by
 rcases h with⟨_,rfl,_⟩|⟨_,_,rfl,_⟩|⟨_,m,kb,k,hm,_,he,rfl,_⟩
 ·simp
 ·simp
 ·rw[askOf_len]
  obtain⟨o1,_⟩:=ok.known m kb k hm he;obtain⟨k1,k8,kn,n16,s1,s8⟩:=o1.cfg;have h1:=k.lks_le k.ts.length;have h2:=o1.blocks;have h3:=partsN_le (a:=k.T) k1;have h4:=symN_range (S:=k.S) (len:=k.len) s1;have h5:=o1.len;have h6:k.T=symN k.S k.len:=rfl;omega
theorem AskTells.one{A:Nat->Addr}{r:Rcv}{w w':World}{e:Ending}(h:AskTells A r w e w'):∃ v ev l z,e=.returned (.tuple #[v,ev])/\VSays A w' ev z/\AskIs r l z/\w'.ownsRow w.heap.size 5 1 v l.length (encL l)/\Below w.heap.size w w':=by
 obtain⟨hb,h|h|h⟩:=h
 ·obtain⟨h1,rfl⟩:=h
  exact⟨_,_,[],(8,-1),rfl,.inr (.inl ⟨7,by omega,rfl,rfl⟩),.inl ⟨h1,rfl,rfl⟩,World.ownsRow_nil ..,hb⟩
 ·obtain⟨h1,h2,rfl⟩:=h
  exact⟨_,_,[],(0,-1),rfl,.inl ⟨rfl,rfl⟩,.inr (.inl ⟨h1,h2,rfl,rfl⟩),World.ownsRow_nil ..,hb⟩
 ·obtain⟨h1,m,kb,k,h2,h3,h4,g,cap,rfl,h5⟩:=h
  exact⟨_,_,askOf m k.len (k.lks k.ts.length),(0,-1),rfl,.inl ⟨rfl,rfl⟩,.inr (.inr ⟨h1,m,kb,k,h2,h3,h4,rfl,rfl⟩),by rw[askOf_len];exact h5,hb⟩
theorem bestP_min(kn:List Prt):∀ n b,bestP kn n=some b->∀ i,i<n->(prat kn b).n<=(prat kn i).n
 | 0,b,h,i,hi=>by omega
 | n+1,b,h,i,hi=>by
  rw[bestP]at h
  cases e:bestP kn n with
  | none=>
   rw[e]at h;simp only[Option.some.injEq]at h;have:=bestP_none kn n e;subst h;obtain rfl:i=n:=by omega
   exact Nat.le_refl _
  | some b'=>
   rw[e]at h;simp only at h;have ih:=bestP_min kn n b' e;split at h
   ·rename_i q
    simp only[Option.some.injEq]at h;subst h;by_cases q':i=n
    ·subst q';exact Nat.le_refl _
    ·have:=ih i (by omega);omega
   ·rename_i q
    simp only[Option.some.injEq]at h;subst h;by_cases q':i=n
    ·subst q';omega
    ·exact ih i (by omega)
theorem RAskGives.one{r:Rcv}{q:Rrv}{w w':World}{e:Ending}(h:RAskGives q w e w')(ok:r.Ok)(sim:SimR r q){l:List Gf.F}{z:Int×Int}(hl:AskIs r l z):
 ∃ a c,e=.returned (.tuple #[.slice a l.length c,.agg #[.int .i64 z.1,.int .i64 z.2]])/\w'.ownsRow w.heap.size 5 1 (.slice a l.length c) l.length (encL l)/\Below w.heap.size w w':=by
 have hsh:=sim.shut;rcases hl with⟨hs,rfl,rfl⟩|⟨hs,hn,rfl,rfl⟩|⟨hs,m,kb,k,hm,hlt,he,rfl,rfl⟩
 ·rcases h with⟨_,rfl,hb⟩|⟨h1,_⟩|⟨h1,_⟩
  ·exact⟨none,0,rfl,World.ownsRow_nil ..,hb⟩
  ·rw[hsh,hs]at h1;cases h1
  ·rw[hsh,hs]at h1;cases h1
 ·have hO:=sim.live hs
  rcases h with⟨h1,_⟩|⟨_,_,rfl,hb⟩|⟨_,b,g,n,cap,h2,_⟩
  ·rw[hsh,hs]at h1;cases h1
  ·exact⟨none,0,rfl,World.ownsRow_nil ..,hb⟩
  ·have hb:=bestP_lt _ _ _ h2
   obtain⟨kb,k,h3,_⟩:=hO.num b hb;rw[hn _ (sim.fit.part b hb).num]at h3;cases h3
 ·have hO:=sim.live hs
  obtain⟨i,hi,hi2,hi3,hi4⟩:=hO.hit hm he;rcases h with⟨h1,_⟩|⟨_,h2,_⟩|⟨_,b,g,n,cap,h2,rfl,ho,hb⟩
  ·rw[hsh,hs]at h1;cases h1
  ·have:=bestP_none _ _ h2;omega
  ·have hbl:=bestP_lt _ _ _ h2
   have hmin:=bestP_min _ _ _ h2 i hi2
   have hbn:(prat q.kn b).n=m:=by
    rcases Nat.lt_or_ge (prat q.kn b).n m with x|x
    ·obtain⟨kb',k',h3,_⟩:=hO.num b hbl
     rw[hlt _ x]at h3;cases h3
    ·omega
   have hbi:b=i:=num_inj hO.nums hbl hi2 (by rw[hbn,hi3]);subst hbi;obtain⟨o1,o2,o3,o4⟩:=ok.known m kb k hm he;have hks:=hi4.lks k.ts.length (Nat.le_refl _);have hbk:=o1.blocks;have hT:k.T=symN r.S (prat q.kn b).len:=by unfold Kn.T;rw[o4,hi4.len]
   rw[hT,o2]at hbk;rw[o2,o4]at hks
   have hx:askOf (prat q.kn b).n (prat q.kn b).len ((prat q.kn b).lks q.K q.S (partsN (symN q.S (prat q.kn b).len) q.K))=askOf m k.len (k.lks k.ts.length):=by
    rw[sim.K,sim.S,<- hbk,hks,hbn,<- hi4.len]
   rw[hx]at ho;have hn:n=(askOf m k.len (k.lks k.ts.length)).length:=by have:=ho.1;simpa [encL] using this.symm
   subst hn;exact⟨_,_,rfl,ho,hb⟩
theorem HAt.setR{w:World}{hb:Nat}{s:HS}(h:HAt w hb s)(v:Value):HAt (w.setCell ⟨hb,1,none⟩ v) hb {s with rv:=v}:=by unfold HAt;rw[heap_setCell_same w hb 1 _ _ _ h];rfl
theorem Tryz.info_receiver:(Tryz.prog.info? 93).map (fun i=>(i.zero,i.size,i.bytes))=some (some (.agg #[.pointer none,.pointer none]),2,16):=by kernel_rfl
theorem Tryz.receiver_parts:∃ i,Tryz.prog.info? 93=some i/\i.zero=some (.agg #[.pointer none,.pointer none])/\i.size=2/\i.bytes=16:=by
 obtain⟨i,hi,h⟩:=Option.map_eq_some_iff.1 Tryz.info_receiver;simp only[Prod.mk.injEq]at h;exact⟨i,hi,h.1,h.2.1,h.2.2⟩
theorem rp0(K N S d mb rb qb:Nat)(hc:Cfg K N S):RpOk ⟨rcv0 K N S d mb,rb,rrv0 K N S,qb⟩:=by
 refine⟨⟨rfl,rfl,rfl,rfl,fun _=>⟨fun m hm=>?_,by simp[rrv0],fun i hi=>by simp[rrv0]at hi,fun m kb k hm h=>by simp[rcv0]at h,rfl,by simp[rcv0],fun u hu=>by simp[rcv0]at hu,by simp[rrv0]⟩,⟨hc,by simp[rrv0],fun i hi=>by simp[rrv0]at hi,by simp[rrv0],by simp[rrv0]⟩,fun _ m kb k hm h=>by simp[rcv0]at h⟩,by simp[Rcv.apartG,rcv0],fun u hu=>by simp[rcv0]at hu⟩
 have e:(rcv0 K N S d mb).tk.getD m false=false:=by
  show(List.replicate 16 false).getD m false=false;rw[List.getD_eq_getElem?_getD,List.getElem?_replicate];split<;>rfl
 rw[e];simp[rrv0]
theorem XI.made{A:Nat->Addr}{B0:Nat}{own:Nat->Nat}{w w1 w2 w3 W:World}{hb t K N S rb rd rm qb g cap:Nat}{hs:HS}{es:List Ent}{ps:List Pr}{qs:List Rp}{os:List Ent}{ob:Obj}(hI:XI A B0 own w hb t hs es ps qs os)(hcf:Cfg K N S)(hb1:Below w.heap.size w w1)(hS:RcAt w1 w.heap.size rb (rcv0 K N S rd rm))(hb2:Below w1.heap.size w1 w2)(hR:RrAt w2 w1.heap.size qb (rrv0 K N S))(hb3:Below w2.heap.size w2 w3)
 (hg:(w3.alloc ob).grownBy W hs.rv.ownBlock) (hown:W.ownsRow (hb+1) 93 2 (.slice (some ⟨g,0,none⟩) (qs.length+1) cap) (qs.length+1) (flat2 (rpVals qs)++[.pointer (some ⟨rb,0,none⟩),.pointer (some ⟨qb,0,none⟩)])) (hlie:hs.rv.ownBlock=some g∨g=w3.heap.size+1):
 ∃ own' qs',XI A B0 own' (W.setCell ⟨hb,1,none⟩ (.slice (some ⟨g,0,none⟩) (qs.length+1) cap)) hb (t+1) {hs with rv:=.slice (some ⟨g,0,none⟩) (qs.length+1) cap} es ps qs' os/\qs'.length=qs.length+1/\Fr own w own' (W.setCell ⟨hb,1,none⟩ (.slice (some ⟨g,0,none⟩) (qs.length+1) cap))/\
  ∀(k:Nat) (cs:Array Value) (t:TypeId),w3.heap[k]?=some (Obj.cells cs t (0,0))->t≠93->t≠81->(W.setCell ⟨hb,1,none⟩ (.slice (some ⟨g,0,none⟩) (qs.length+1) cap)).heap[k]?=w3.heap[k]?:=by
 have h1:=hI.toWJ.above (4*qs.length+8) hb1;have h2:=h1.above (4*qs.length+9) hb2;have h3:=h2.above 0 hb3;have hb4:Below w3.heap.size w3 (w3.alloc ob):=(Below.refl _ w3).alloc (Nat.le_refl _) ob;have h4:=h3.above 0 hb4;have f5:=(((Fr.above (own:=own) (4*qs.length+8) hb1).trans (Fr.above (4*qs.length+9) hb2)).trans (Fr.above 0 hb3)).trans (Fr.above 0 hb4);have hlt:=hI.hands.lt;have e1:=hb1.size;have e2:=hb2.size;have e3:=hb3.size;have hS4:RcAt (w3.alloc ob) w.heap.size rb (rcv0 K N S rd rm):=((hS.above hb2).above hb3).above hb4;have hR4:RrAt (w3.alloc ob) w1.heap.size qb (rrv0 K N S):=(hR.above hb3).above hb4
 have hoS:∀ b,(rcv0 K N S rd rm).foot rb b->ownN (ownN (ownN (ownN own w.heap.size (4*qs.length+8)) w1.heap.size (4*qs.length+9)) w2.heap.size 0) w3.heap.size 0 b=4*qs.length+8:=fun b q=>by
  have hlt4:=hS.foot_lt q;rw[ownN_old (by omega),ownN_old (by omega),ownN_old hlt4.2,ownN_new hlt4.1]
 have hoR:∀ b,(rrv0 K N S).foot qb b->ownN (ownN (ownN (ownN own w.heap.size (4*qs.length+8)) w1.heap.size (4*qs.length+9)) w2.heap.size 0) w3.heap.size 0 b=4*qs.length+9:=fun b q=>by
  have hlt4:=hR.foot_lt q;rw[ownN_old (by omega),ownN_old hlt4.2,ownN_new hlt4.1]
 generalize ownN (ownN (ownN (ownN own w.heap.size (4*qs.length+8)) w1.heap.size (4*qs.length+9)) w2.heap.size 0) w3.heap.size 0=own4 at *;have hRJ:=h4.rest.now;have hbu:But (fun b=>b=hb∨hs.rv.ownBlock=some b) (w3.alloc ob) (W.setCell ⟨hb,1,none⟩ (.slice (some ⟨g,0,none⟩) (qs.length+1) cap)):=((But.refl _ (w3.alloc ob)).grown hg (fun k hk=>.inl (.inr hk))).setCell (p:=⟨hb,1,none⟩) (.inl (.inl rfl)) _;have hHW:HAt W hb hs:=h4.hands.kept (grown_block hg h4.hands.lt (fun q=>own_ne hRJ.rown q h4.hands (by decide) rfl));have hO:=But.setCell (S:=fun b=>b=hb) (But.refl _ W) (p:=⟨hb,1,none⟩) (.inl rfl) (.slice (some ⟨g,0,none⟩) (qs.length+1) cap)
 have hn:∀ b,own4 b≠0->own4 b≠4->¬(b=hb∨hs.rv.ownBlock=some b):=fun b n0 n4 z=>by
  rcases z with z|z
  ·exact n0 (by rw[z];exact h4.oH)
  ·exact n4 (hRJ.oV b z)
 have hl:(qs++[(⟨rcv0 K N S rd rm,rb,rrv0 K N S,qb⟩:Rp)]).length=qs.length+1:=by simp
 have hRJ':RJ hb (qs++[(⟨rcv0 K N S rd rm,rb,rrv0 K N S,qb⟩:Rp)]) os (.slice (some ⟨g,0,none⟩) (qs.length+1) cap) hs.objs hs.bmarks (ownN own4 (w3.alloc ob).heap.size 4) (W.setCell ⟨hb,1,none⟩ (.slice (some ⟨g,0,none⟩) (qs.length+1) cap)):=by
  refine⟨?_,fun j hj=>?_,fun j hj=>?_,hRJ.obs.but hbu (fun x hx=>hn x (by rw[hRJ.oO x hx];omega) (by rw[hRJ.oO x hx];omega)) (fun x hx=>hn x (by rw[hRJ.oM x hx];omega) (by rw[hRJ.oM x hx];omega)) (fun e he x hx=>hn x (by rw[hRJ.oE e he x hx];omega) (by rw[hRJ.oE e he x hx];omega)),fun b hb'=>?_,fun j b hj q=>?_,fun j b hj q=>?_,fun b hx=>by rw[ownN_old (hRJ.obs.own.lt b hx).2];exact hRJ.oO b hx,fun b hx=>by rw[ownN_old (hRJ.obs.marks.lt b hx).2];exact hRJ.oM b hx,fun e he b hx=>by rw[ownN_old (hRJ.ltE he hx)];exact hRJ.oE e he b hx⟩
  ·rw[hl]
   have e:rpVals (qs++[(⟨rcv0 K N S rd rm,rb,rrv0 K N S,qb⟩:Rp)])=rpVals qs++[(.pointer (some ⟨rb,0,none⟩),.pointer (some ⟨qb,0,none⟩))]:=by simp[rpVals]
   rw[e,flat2_append];exact hO.own hown (fun k hk q=>own_ne hown hk hHW (by decide) q)
  ·by_cases e:j<qs.length
   ·rw[rpat_push _ _ _ e]
    exact⟨(hRJ.rcv j e).1.kept (fun b q=>hbu.block b (hRJ.ltP e q) (hn b (by rw[hRJ.oP j b e q];omega) (by rw[hRJ.oP j b e q];omega))),(hRJ.rcv j e).2⟩
   ·obtain rfl:j=qs.length:=by omega
    rw[rpat_last];exact⟨(hS4.kept (fun b q=>hbu.block b (hS4.foot_lt q).2 (hn b (by rw[hoS b q];omega) (by rw[hoS b q];omega)))).lower (by omega),rcv0_ok hcf⟩
  ·by_cases e:j<qs.length
   ·rw[rpat_push _ _ _ e]
    exact(hRJ.rrv j e).kept (fun b q=>hbu.block b (hRJ.ltD e q) (hn b (by rw[hRJ.oD j b e q];omega) (by rw[hRJ.oD j b e q];omega)))
   ·obtain rfl:j=qs.length:=by omega
    rw[rpat_last];exact(hR4.kept (fun b q=>hbu.block b (hR4.foot_lt q).2 (hn b (by rw[hoR b q];omega) (by rw[hoR b q];omega)))).lower (by omega)
  ·have hg':g=b:=by simpa [Value.ownBlock] using hb'
   subst hg';rcases hlie with q|q
   ·rw[ownN_old (hRJ.rown.lt g q).2];exact hRJ.oV g q
   ·exact ownN_new (by simp;omega)
  ·by_cases e:j<qs.length
   ·rw[rpat_push _ _ _ e]at q
    rw[ownN_old (hRJ.ltP e q)];exact hRJ.oP j b e q
   ·obtain rfl:j=qs.length:=by omega
    rw[rpat_last]at q;rw[ownN_old (hS4.foot_lt q).2];exact hoS b q
  ·by_cases e:j<qs.length
   ·rw[rpat_push _ _ _ e]at q
    rw[ownN_old (hRJ.ltD e q)];exact hRJ.oD j b e q
   ·obtain rfl:j=qs.length:=by omega
    rw[rpat_last]at q;rw[ownN_old (hR4.foot_lt q).2];exact hoR b q
 have hJ:=WJ.stepX (R':=RJ hb (qs++[(⟨rcv0 K N S rd rm,rb,rrv0 K N S,qb⟩:Rp)]) os) (own':=ownN own4 (w3.alloc ob).heap.size 4) (hs':={hs with rv:=.slice (some ⟨g,0,none⟩) (qs.length+1) cap}) h4 hbu (fun b _ z=>z.imp id (fun z=>by rw[hRJ.oV b z];exact⟨by omega,by omega⟩)) (fun b hlt _=>ownN_old hlt) (hHW.setR _) ⟨rfl,rfl,rfl⟩ hRJ'.stays;obtain⟨N',n1,n2⟩:=hI.n;refine⟨_,_,⟨⟨hJ,fun j hj=>(hI.sim j hj).more (by omega),⟨N',n1,by omega⟩,by have:=hI.fewE;omega,by have:=hI.fewP;omega,⟨hI.nil.in0,hI.nil.rows0,hI.nil.ints0,hI.nil.want0,hI.nil.outer0,hI.nil.omarks0,hI.nil.lacks0⟩⟩,fun j hj=>?_,by have:=hI.fewQ;rw[hl];omega,by have:=hI.fewO;omega⟩,hl,f5.trans (Fr.but hbu (fun b _ q=>?_)),fun k cs t hk n1 n2=>?_⟩
 ·rw[hl]at hj
  by_cases e:j<qs.length
  ·rw[rpat_push _ _ _ e]
   exact hI.rp j e
  ·obtain rfl:j=qs.length:=by omega
   rw[rpat_last];exact rp0 K N S rd rm rb qb hcf
 ·rcases q with rfl|q
  ·rw[h4.oH];omega
  ·rw[hRJ.oV b q];omega
 ·have hkl:=lt_of_block hk
  rw[hbu.block k (by simp;omega) (fun q=>?_)]
  ·exact Below.heap_alloc w3 ob k hkl
  ·rcases q with q|q
   ·exact ne_typ hk h3.hands n2 q
   ·exact own_ne h3.rest.now.rown q hk (fun e=>n1 e.symm) rfl
theorem xhears_new{A:Nat->Addr}{B0:Nat}{own:Nat->Nat}{w:World}{hb t:Nat}{hs:HS}{es:List Ent}{ps:List Pr}{qs:List Rp}{os:List Ent}{q:Opv}(hI:XI A B0 own w hb t hs es ps qs os)(hk:q.kd=5)(ht:t<=200000000):
 Calls Tryz.prog 52 #[.pointer (some ⟨hb,0,none⟩),.agg q.cells] w fun e w'=>e=.returned (.bool true)/\XStep A B0 own w hb (t+1) ps.length (if cfgB q.K q.N q.S=true then qs.length+1 else qs.length) w':=by
 have hbe:Below w.heap.size w (w.alloc (.cells q.cells 83)):=(Below.refl _ _).alloc (Nat.le_refl _) _;have hI0:=hI.above 1 hbe;have hF0:Fr own w (ownN own w.heap.size 1) _:=Fr.above 1 hbe;have hX0:=heap_alloc_new w (.cells q.cells 83);obtain⟨kd,on,tt,qa,K,N,S,p,n,c⟩:=q;simp only[Opv.cells]at *;obtain rfl:=hk;have hfP:=hI.fewQ;go_enter Tryz.func52,Tryz.ntmps52;go_upto_region 1 with fail;generalize w.alloc (.cells #[.int .i64 5,.int .i64 on,.int .i64 tt,.int .i64 qa,.int .i64 K,.int .i64 N,.int .i64 S,.slice p n c] 83)=W0 at *;generalize ownN own w.heap.size 1=own0 at *;obtain⟨bx,hbx⟩:∃ x,x=w.heap.size:=⟨_,rfl⟩;rw[<- hbx]at hX0 ⊢;have hcell:∀ {W:World},W.heap[bx]?=some (.cells #[.int .i64 5,.int .i64 on,.int .i64 tt,.int .i64 qa,.int .i64 K,.int .i64 N,.int .i64 S,.slice p n c] 83 (0,0))->W.cell? ⟨bx,0,none⟩=some (.int .i64 5)/\W.cell? ⟨bx,4,none⟩=some (.int .i64 K)/\W.cell? ⟨bx,5,none⟩=some (.int .i64 N)/\W.cell? ⟨bx,6,none⟩=some (.int .i64 S):=fun {W} h=>⟨cell_of_row W bx 0 _ _ _ h,cell_of_row W bx 4 _ _ _ h,cell_of_row W bx 5 _ _ _ h,cell_of_row W bx 6 _ _ _ h⟩
 have HCL:Hid _:=@hcell;clear hcell hbx;have HI0:Hid (XI A B0 own0 W0 hb t hs es ps qs os):=hI0;have HF0:Hid (Fr own w own0 W0):=hF0;have hE:=hI0.errs;clear hI hF0 hbe hI0;obtain⟨x0,x4,x5,x6⟩:=HCL.out hX0
 cases hcb:cfgB K N S with
 | true=>
  obtain⟨k,n',s,rfl,rfl,rfl,hcf⟩:=cfgB_cfg hcb;go_wp2_with fail;refine(newReceiver_ok k n' s hcb W0).mono ?_;rintro e w1 ⟨sb,rd,rm,rfl,hS1,hb1⟩;have hX1:=(hb1.block bx (lt_of_block hX0)).trans hX0;clear x0 x4 x5 x6;obtain⟨x0,x4,x5,x6⟩:=HCL.out hX1;go_wp2_with fail;refine(rnewReceiver_ok k n' s hcb w1).mono ?_;rintro e w2 ⟨rb,rfl,hR2,hb2⟩;have hb12:Below W0.heap.size W0 w2:=hb1.trans (hb2.mono hb1.size);have hE2:=heap_alloc_new w2 (.cells #[.int .i64 0,.int .i64 (-1)] 139);have hb3:Below w2.heap.size w2 (w2.alloc (.cells #[.int .i64 0,.int .i64 (-1)] 139)):=(Below.refl _ _).alloc (Nat.le_refl _) _;clear x0 x4 x5 x6;go_upto_region 4 with fail;generalize w2.alloc (.cells #[.int .i64 0,.int .i64 (-1)] 139)=w3 at *;have hb13:Below W0.heap.size W0 w3:=hb12.trans (hb3.mono hb12.size);have hJ3:=HI0.out.toWJ.above 0 hb13;have hH3:=hJ3.hands;have hl3:=hH3.lt;obtain⟨va,vc,hva,_⟩:=own_form2 hJ3.rest.now.rown;have HVA:Hid (hs.rv=.slice va qs.length vc):=hva;have c0:w3.cell? ⟨hb,1,none⟩=some (.slice va qs.length vc):=by rw[cell_of_row w3 hb 1 _ _ _ hH3];show some hs.rv=_;rw[hva]
  obtain⟨iS,hiS,hiS0,hiS1,hiS2⟩:=Tryz.receiver_parts
  have HOW:Hid (∀ ob:Obj,(w3.alloc ob).ownsRow (hb+1) 93 2 (.slice va qs.length vc) qs.length (flat2 (rpVals qs))):=fun ob=>by
   have:=hJ3.rest.now.rown;rw[HVA.out]at this;exact this.alloc ob
  have HMX:Hid (qs.length+1<=maxLen):=by show _<=_;unfold maxLen;omega
  have HK5:Hid (∀ ob w5,(w3.alloc ob).grownBy w5 (Value.slice va qs.length vc).ownBlock->w5.cell? ⟨hb,1,none⟩=some (.slice va qs.length vc)/\w5.frozen? ⟨hb,1,none⟩=false):=fun ob w5 hg=>by
   have hk:w5.heap[hb]?=w3.heap[hb]?:=(grown_block hg (by simp;omega) (fun q=>by rw[<- HVA.out]at q;exact own_ne hJ3.rest.now.rown q hH3 (by decide) rfl)).trans (Below.heap_alloc w3 ob hb hl3);have hblk:=hk.trans hH3;exact⟨by rw[cell_of_row w5 hb 1 _ _ _ hblk];show some hs.rv=_;rw[HVA.out],frozen_of_row w5 hb 1 _ _ hblk⟩
  have HNW:Hid (∀ u ∈ [Value.pointer (some ⟨sb,0,none⟩),.pointer (some ⟨rb,0,none⟩)],u.oneCell'=true):=fun u hu=>by simp at hu;rcases hu with rfl|rfl<;>rfl
  have hn3:¬ hb=w3.heap.size:=Nat.ne_of_lt hl3;obtain⟨eb,heb⟩:∃ x,x=w2.heap.size:=⟨_,rfl⟩;rw[<- heb]at hE2 ⊢
  have HMAD:Hid (∀(W:World) (g cap:Nat) (ob:Obj),(w3.alloc ob).grownBy W hs.rv.ownBlock->W.ownsRow (hb+1) 93 2 (.slice (some ⟨g,0,none⟩) (qs.length+1) cap) (qs.length+1) (flat2 (rpVals qs)++[.pointer (some ⟨sb,0,none⟩),.pointer (some ⟨rb,0,none⟩)])->(hs.rv.ownBlock=some g∨g=w3.heap.size+1)->XStep A B0 own w hb (t+1) ps.length (qs.length+1) (W.setCell ⟨hb,1,none⟩ (.slice (some ⟨g,0,none⟩) (qs.length+1) cap))/\(W.setCell ⟨hb,1,none⟩ (.slice (some ⟨g,0,none⟩) (qs.length+1) cap)).heap[eb]?=some (.cells #[.int .i64 0,.int .i64 (-1)] 139 (0,0))):=fun W g cap ob h1 h2 h3=>by
   obtain⟨own',qs',m1,m2,m3,m4⟩:=HI0.out.made hcf hb1 hS1 hb2 hR2 hb3 h1 h2 h3;exact⟨⟨own',_,es,ps,qs',os,m1,rfl,m2,HF0.out.trans m3⟩,(m4 eb _ _ hE2 (by decide) (by decide)).trans hE2⟩
  clear hva hJ3 hH3 heb hE2 hX0 hX1;go_wp2_with (at_builtin;refine wpList_append_lies _ rfl _ _ _ rfl (hb+1) 93 iS (.agg #[.pointer none,.pointer none]) 2 16 Tryz.underlying71 hiS hiS0 hiS1 hiS2 rfl (by omega) (.slice va qs.length vc) qs.length (flat2 (rpVals qs)) rfl (HOW.out _) ⟨w3.heap.size,0,none⟩ 1 1 [.pointer (some ⟨sb,0,none⟩),.pointer (some ⟨rb,0,none⟩)] rfl rfl (cell_two_at w3 _ _ _ _ rfl) HNW.out (by omega) HMX.out (by omega) (by simp;omega) (w3.heap.size+1) (by simp) ?_);intro g5 cap5 w5 hown5 hgr5 hlie5 hlt5;obtain⟨k5,f5⟩:=HK5.out _ _ hgr5;go_upto_region 6 with fail;obtain⟨hW6,hE6⟩:=HMAD.out w5 g5 cap5 _ (by rw[HVA.out];exact hgr5) hown5 (by rw[HVA.out];exact hlie5);generalize w5.setCell ⟨hb,1,none⟩ (.slice (some ⟨g5,0,none⟩) (qs.length+1) cap5)=W6 at *;clear k5 f5 hown5 hgr5 hlie5 hlt5 c0 HOW HK5 HMAD hb1 hS1 hb2 hR2 hb12 hb13 hb3;obtain⟨y0,y1,_,_⟩:=twoE hE6;have HE7:Hid (∀ w7,Below W6.heap.size W6 w7->w7.cell? ⟨eb,0,none⟩=some (.int .i64 0)/\w7.cell? ⟨eb,1,none⟩=some (.int .i64 (-1))):=fun w7 hb7=>⟨by rw[hb7.cell (lt_of_cell y0)];exact y0,by rw[hb7.cell (lt_of_cell y1)];exact y1⟩
  have HFIN:Hid (∀ w7,Below W6.heap.size W6 w7->XStep A B0 own w hb (t+1) ps.length (qs.length+1) w7):=fun w7 hb7=>by
   obtain⟨own',hs',es',ps',qs',os',m1,m2,m2',m3⟩:=hW6;exact⟨_,_,_,_,_,_,m1.above 0 hb7,m2,m2',m3.trans (Fr.above 0 hb7)⟩
  clear hW6 hE6
  go_region_held3 (fun w'=>w'.cell? ⟨eb,0,none⟩=some (.int .i64 0)/\w'.cell? ⟨eb,1,none⟩=some (.int .i64 (-1))) (first | go_keep|exact hkeep) (first
   | (go_at_call 56;refine(told_nil _).mono ?_;rintro e w7 ⟨rfl,hb7⟩;(have hbX:Below W6.heap.size W6 w7:=by first | exact Below.undraw hb7|exact hb7);have hkeep:=HE7.out w7 hbX;obtain⟨y0',y1'⟩:=hkeep))
  all_goals go_wp2_with fail
  all_goals go_ret
  all_goals exact⟨rfl,HFIN.out _ hbX⟩
 | false=>
  go_wp2_with fail;refine(newReceiver_no A B0 K N S hcb W0 hE).mono ?_;rintro e w1 ⟨rfl,hb1⟩;have hX1:=(hb1.block bx (lt_of_block hX0)).trans hX0;have hE1:=hE.shrink _ hb1;clear x0 x4 x5 x6;obtain⟨x0,x4,x5,x6⟩:=HCL.out hX1;go_wp2_with fail;refine(rnewReceiver_no K N S hcb w1).mono ?_;rintro e w2 ⟨rfl,hb2⟩;have hb12:Below W0.heap.size W0 w2:=hb1.trans (hb2.mono hb1.size);have hE2:=heap_alloc_new w2 (.cells #[.int .i64 1,.int .i64 (-1)] 139);have hb3:Below w2.heap.size w2 (w2.alloc (.cells #[.int .i64 1,.int .i64 (-1)] 139)):=(Below.refl _ _).alloc (Nat.le_refl _) _;clear x0 x4 x5 x6;go_upto_region 4 with fail;generalize w2.alloc (.cells #[.int .i64 1,.int .i64 (-1)] 139)=W6 at *;have hb16:Below W0.heap.size W0 W6:=hb12.trans (hb3.mono hb12.size);have hEr6:=hE.shrink _ hb16;obtain⟨eb,heb⟩:∃ x,x=w2.heap.size:=⟨_,rfl⟩;rw[<- heb]at hE2 ⊢;obtain⟨y0,y1,_,_⟩:=twoE hE2;have HE7:Hid (∀ w7,Below W6.heap.size W6 w7->w7.cell? ⟨eb,0,none⟩=some (.int .i64 1)/\w7.cell? ⟨eb,1,none⟩=some (.int .i64 (-1))):=fun w7 hb7=>⟨by rw[hb7.cell (lt_of_cell y0)];exact y0,by rw[hb7.cell (lt_of_cell y1)];exact y1⟩
  have HFIN:Hid (∀ w7,Below W6.heap.size W6 w7->XStep A B0 own w hb (t+1) ps.length qs.length w7):=fun w7 hb7=>by
   have hb17:=hb16.trans (hb7.mono hb16.size);exact⟨_,_,_,_,_,_,(HI0.out.above 0 hb17).more (by omega),rfl,rfl,HF0.out.trans (Fr.above 0 hb17)⟩
  have HTD:Hid (∀ W,Below W6.heap.size W6 W->Calls Tryz.prog 56 #[E A 1] W fun e w'=>e=.returned (.agg #[.int .i64 1,.int .i64 (-1)])/\Below W.heap.size W w'):=fun W hW=>told_err A B0 0 (by omega) W (hEr6.shrink _ hW)
  have hdr:Below W6.heap.size W6 W6.drew:=(Below.refl _ _).drew;clear heb hE2 hX0 hX1 hb1 hb2 hb12 hb3 hb16;go_upto_region 6 with fail
  go_region_held3 (fun w'=>w'.cell? ⟨eb,0,none⟩=some (.int .i64 1)/\w'.cell? ⟨eb,1,none⟩=some (.int .i64 (-1))) (first | go_keep|exact hkeep) (first
   | (go_at_call 56;refine(HTD.out _ hdr).mono ?_;rintro e w7 ⟨rfl,hb7⟩;(have hbX:Below W6.heap.size W6 w7:=by first | exact Below.undraw hb7|exact hb7);have hkeep:=HE7.out w7 hbX;obtain⟨y0',y1'⟩:=hkeep))
  all_goals go_wp2_with fail
  all_goals go_ret
  all_goals exact⟨rfl,HFIN.out _ hbX⟩
end Go.Proofs.YtjabhnhejbhgjaaGreatDoor
