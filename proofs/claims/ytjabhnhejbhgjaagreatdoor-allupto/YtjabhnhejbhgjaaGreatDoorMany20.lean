import Derived.Test.YtjabhnhejbhgjaaGreatDoorAsWalk
import Derived.Test.YtjabhnhejbhgjaaGreatDoorMany17
import Derived.Deep.RegionHeld3
set_option maxRecDepth 100000
set_option maxHeartbeats 8000000
namespace Go.Proofs.YtjabhnhejbhgjaaGreatDoor
open Go.RowKit
theorem ErrType.below{w w':World}{B:Nat}(h:ErrType w)(hb:Below B w w')(hB:8<B):ErrType w':=by
 unfold ErrType;rw[hb.cell (p:=⟨8,0,none⟩) hB];exact h
theorem behind_any(pb z:Nat)(u:TypeId)(x:Value)(w:World)(hz:z<=140737488355328)(hblk:w.heap[pb]?=some (.cells #[.int .i64 z,.iface u x] 168 (0,0)))(hET:ErrType w)(hgl:8<w.heap.size):
 Calls Tryz.prog 68 #[.int .i64 4,.iface 166 (.pointer (some ⟨pb,0,none⟩))] w fun e w'=>∃ v,e=.returned v/\Wr w w' v ((z+4:Nat):Int) (.iface u x)/\Below w.heap.size w w':=by
 have hpl:=lt_of_block hblk;have hb0:Below w.heap.size w (w.alloc (.cells #[.pointer none] 166)):=(Below.refl _ _).alloc (Nat.le_refl _) _;have hET1:ErrType (w.alloc (.cells #[.pointer none] 166)):=hET.below hb0 hgl;have ht0:(w.alloc (.cells #[.pointer none] 166)).cell? ⟨w.heap.size,0,none⟩=some (.pointer none):=cell_of_row _ _ 0 _ _ _ (heap_alloc_new w _);have hf0:(w.alloc (.cells #[.pointer none] 166)).frozen? ⟨w.heap.size,0,none⟩=false:=frozen_of_row _ _ 0 _ _ (heap_alloc_new w _);have hsz:(w.alloc (.cells #[.pointer none] 166)).heap.size=w.heap.size+1:=by simp
 have hnew:=heap_alloc_new w (.cells #[.pointer none] 166);go_enter Tryz.func68,Tryz.ntmps68;go_upto_region 2 with fail;generalize w.alloc (.cells #[.pointer none] 166)=W at *;go_wp2_with fail;refine(as_bad ⟨pb,0,none⟩ ⟨w.heap.size,0,none⟩ _ W hET1 ht0 hf0 (by show w.heap.size<_;omega) (by omega)).mono ?_;rintro e W1 ⟨rfl,hW1⟩;obtain⟨V,rfl,hV⟩:∃ V,W1=V.setCell ⟨w.heap.size,0,none⟩ (.pointer (some ⟨pb,0,none⟩))/\Below W.heap.size W V:=⟨_,hW1,((((Below.refl _ W).alloc (Nat.le_refl _) _).alloc (by simp) _).alloc (by simp;omega) _).alloc (by simp;omega) _⟩;have hVn:V.heap[w.heap.size]?=some (.cells #[.pointer none] 166 (0,0)):=by rw[hV.block _ (by omega)];exact hnew
 have hl1:Below w.heap.size w (V.setCell ⟨w.heap.size,0,none⟩ (.pointer (some ⟨pb,0,none⟩))):=(hb0.trans (hV.mono (by omega))).setCell (p:=⟨w.heap.size,0,none⟩) (Nat.le_refl _) _;have hc1:(V.setCell ⟨w.heap.size,0,none⟩ (.pointer (some ⟨pb,0,none⟩))).cell? ⟨w.heap.size,0,none⟩=some (.pointer (some ⟨pb,0,none⟩)):=cell_of_row _ _ 0 #[.pointer (some ⟨pb,0,none⟩)] _ _ (heap_setCell_same V w.heap.size 0 _ _ _ hVn);generalize V.setCell ⟨w.heap.size,0,none⟩ (.pointer (some ⟨pb,0,none⟩))=W1 at *;clear hV hVn;have hblk1:W1.heap[pb]?=some (.cells #[.int .i64 z,.iface u x] 168 (0,0)):=by rw[hl1.block _ hpl];exact hblk
 have d0:W1.cell? ⟨pb,0,none⟩=some (.int .i64 z):=cell_of_row W1 _ 0 _ _ _ hblk1;have d1:W1.cell? ⟨pb,1,none⟩=some (.iface u x):=cell_of_row W1 _ 1 _ _ _ hblk1;have HL1:Hid (Below w.heap.size w W1):=hl1;clear hW1 hl1 hET1 ht0 hf0 hb0 hET hnew hblk hblk1;have hwz:IntKind.i64.wrap (4+(z:Int))=((z+4:Nat):Int):=by rw[IntKind.wrap_i64];omega
 go_upto_region 3 with fail
 go_region_with (go_at_call 41;refine(wrong_any _ _ _ _).mono ?_;rintro e w' ⟨rfl,rfl⟩)
 all_goals go_wp2_with fail
 all_goals go_ret
 all_goals
  have hs1:=HL1.out.size;exact⟨_,rfl,⟨W1.heap.size,rfl,hs1,by rw[show((z+4:Nat):Int)=(z:Int)+4 by omega];exact heap_alloc_new W1 _⟩,(HL1.out.alloc hs1 _).drew⟩
def lenOf(l:List Gf.F):Nat:=bt l 2*256+bt l 3
def parseE(K N S:Nat)(l:List Gf.F):Option (Nat×Nat):=
 match headE l with
 | some e=>some e
 | none=>(if bt l 0=1 then dataB K N S (symN S (lenOf l)) (l.drop 4) else asksB K (symN S (lenOf l)) (l.drop 4)).map fun e=>(e.1,e.2+4)
def ParseGives(A:Nat->Addr)(K N S:Nat)(l:List Gf.F)(w:World)(e:Ending)(w':World):Prop:=
 (match parseE K N S l with
 | some (c,k)=>∃ v,e=.returned (.tuple #[.agg #[.int .i64 0,.int .i64 0,.int .i64 0,.int .i64 0,.int .i64 0,.slice none 0 0,.slice none 0 0],v])/\Wr w w' v (k:Int) (E A c)
 | none=>if bt l 0=1 then ∃ a c1,e=.returned (.tuple #[.agg #[.int .i64 (bt l 0:Int),.int .i64 (bt l 1:Int),.int .i64 (lenOf l:Int),.int .i64 (bt (l.drop 4) 0:Int),.int .i64 (bt (l.drop 4) 1:Int),.slice a S c1,.slice none 0 0],.nilIface])/\w'.ownsRow w.heap.size 5 1 (.slice a S c1) S (encL ((l.drop 4).drop 2))
  else ∃ a c1,e=.returned (.tuple #[.agg #[.int .i64 (bt l 0:Int),.int .i64 (bt l 1:Int),.int .i64 (lenOf l:Int),.int .i64 0,.int .i64 0,.slice none 0 0,.slice a (bt (l.drop 4) 0) c1],.nilIface])/\w'.ownsRow w.heap.size 122 2 (.slice a (bt (l.drop 4) 0) c1) (bt (l.drop 4) 0) (lackCells (l.drop 4) (bt (l.drop 4) 0)))/\Below w.heap.size w w'
theorem ParseGives.bad{A:Nat->Addr}{K N S c k:Nat}{l:List Gf.F}{w w':World}{v:Value}(h:parseE K N S l=some (c,k))(hw:Wr w w' v (k:Int) (E A c))(hb:Below w.heap.size w w'):
 ParseGives A K N S l w (.returned (.tuple #[.agg #[.int .i64 0,.int .i64 0,.int .i64 0,.int .i64 0,.int .i64 0,.slice none 0 0,.slice none 0 0],v])) w':=by
 unfold ParseGives;rw[h];exact⟨⟨v,rfl,hw⟩,hb⟩
structure PSt(w W:World)(K N S:Nat):Prop where
 low:Below w.heap.size w W
 cfg:W.heap[w.heap.size]?=some (.cells #[.int .i64 K,.int .i64 N,.int .i64 S] 30 (0,0))
 res:W.heap[w.heap.size+1]?=some (.cells #[.int .i64 0,.int .i64 0,.int .i64 0,.int .i64 0,.int .i64 0,.slice none 0 0,.slice none 0 0] 60 (0,0))
theorem PSt.start(w:World)(K N S:Nat):PSt w ((w.alloc (.cells #[.int .i64 K,.int .i64 N,.int .i64 S] 30)).alloc (.cells #[.int .i64 0,.int .i64 0,.int .i64 0,.int .i64 0,.int .i64 0,.slice none 0 0,.slice none 0 0] 60)) K N S:=by
 have e1:=heap_alloc_new (w.alloc (.cells #[.int .i64 K,.int .i64 N,.int .i64 S] 30)) (.cells #[.int .i64 0,.int .i64 0,.int .i64 0,.int .i64 0,.int .i64 0,.slice none 0 0,.slice none 0 0] 60);rw[World.size_alloc]at e1;exact⟨((Below.refl _ _).alloc (Nat.le_refl _) _).alloc (by simp) _,by rw[Below.heap_alloc _ _ _ (by simp)];exact heap_alloc_new w _,e1⟩
theorem PSt.above{w W W':World}{K N S:Nat}(h:PSt w W K N S)(hb:Below (w.heap.size+2) W W'):PSt w W' K N S:=
 ⟨h.low.trans (hb.mono (by omega)),by rw[hb.block _ (by omega)];exact h.cfg,by rw[hb.block _ (by omega)];exact h.res⟩
theorem PSt.lt{w W:World}{K N S:Nat}(h:PSt w W K N S):w.heap.size+2<=W.heap.size:=by have:=lt_of_block h.res;omega
theorem PSt.errs{A:Nat->Addr}{B0:Nat}{w W:World}{K N S:Nat}(h:PSt w W K N S)(hE:Errs A B0 w):Errs A B0 W:=hE.below (h.low.mono hE.size)
theorem put345(W:World)(rb:Nat)(x0 x1 x2 x3 x4 x5 x6 v3 v4 v5:Value)(h:W.heap[rb]?=some (.cells #[x0,x1,x2,x3,x4,x5,x6] 60 (0,0))):
 (((W.setCell ⟨rb,3,none⟩ v3).setCell ⟨rb,4,none⟩ v4).setCell ⟨rb,5,none⟩ v5).heap[rb]?=some (.cells #[x0,x1,x2,v3,v4,v5,x6] 60 (0,0))/\But (fun g=>g=rb) W (((W.setCell ⟨rb,3,none⟩ v3).setCell ⟨rb,4,none⟩ v4).setCell ⟨rb,5,none⟩ v5):=by
 have h3:(W.setCell ⟨rb,3,none⟩ v3).heap[rb]?=some (.cells #[x0,x1,x2,v3,x4,x5,x6] 60 (0,0)):=heap_setCell_same _ rb 3 _ _ v3 h;have h4:((W.setCell ⟨rb,3,none⟩ v3).setCell ⟨rb,4,none⟩ v4).heap[rb]?=some (.cells #[x0,x1,x2,v3,v4,x5,x6] 60 (0,0)):=heap_setCell_same _ rb 4 _ _ v4 h3;have h5:(((W.setCell ⟨rb,3,none⟩ v3).setCell ⟨rb,4,none⟩ v4).setCell ⟨rb,5,none⟩ v5).heap[rb]?=some (.cells #[x0,x1,x2,v3,v4,v5,x6] 60 (0,0)):=heap_setCell_same _ rb 5 _ _ v5 h4;have b3:=But.setCell (S:=fun g=>g=rb) (But.refl _ W) (p:=⟨rb,3,none⟩) (.inl rfl) v3;have b4:=But.setCell b3 (p:=⟨rb,4,none⟩) (.inl rfl) v4;exact⟨h5,But.setCell b4 (p:=⟨rb,5,none⟩) (.inl rfl) v5⟩
theorem put6(W:World)(rb:Nat)(x0 x1 x2 x3 x4 x5 x6 v6:Value)(h:W.heap[rb]?=some (.cells #[x0,x1,x2,x3,x4,x5,x6] 60 (0,0))):
 (W.setCell ⟨rb,6,none⟩ v6).heap[rb]?=some (.cells #[x0,x1,x2,x3,x4,x5,v6] 60 (0,0))/\But (fun g=>g=rb) W (W.setCell ⟨rb,6,none⟩ v6):=
 ⟨heap_setCell_same _ rb 6 _ _ v6 h,But.setCell (S:=fun g=>g=rb) (But.refl _ W) (p:=⟨rb,6,none⟩) (.inl rfl) v6⟩
theorem dataB_some{K N S T c k:Nat}{m:List Gf.F}(h:dataB K N S T m=some (c,k)):(∃ d,c=d+1)/\k<=m.length:=by
 unfold dataB at h;split at h
 ·cases h;exact⟨⟨3,rfl⟩,Nat.le_refl _⟩
 split at h
 ·cases h;exact⟨⟨5,rfl⟩,by omega⟩
 split at h
 ·cases h;exact⟨⟨3,rfl⟩,Nat.le_refl _⟩
 split at h
 ·cases h;exact⟨⟨5,rfl⟩,by omega⟩
 split at h
 ·cases h;exact⟨⟨3,rfl⟩,Nat.le_refl _⟩
 split at h
 ·cases h;exact⟨⟨6,rfl⟩,by omega⟩
 ·cases h
theorem lackB_some{K T c p k least:Nat}{m:List Gf.F}(h:lackB K T m k least=some (c,p)):(∃ d,c=d+1)/\p<=m.length:=by
 unfold lackB at h;split at h
 ·cases h;exact⟨⟨3,rfl⟩,Nat.le_refl _⟩
 split at h
 ·cases h;exact⟨⟨5,rfl⟩,by omega⟩
 split at h
 ·cases h;exact⟨⟨3,rfl⟩,Nat.le_refl _⟩
 split at h
 ·cases h;exact⟨⟨5,rfl⟩,by omega⟩
 ·cases h
theorem asksFrom_some{K T c p:Nat}{m:List Gf.F}:∀ {r i least:Nat},asksFrom K T m r i least=some (c,p)->(∃ d,c=d+1)/\p<=m.length
 | 0,i,_,h=>by
  unfold asksFrom at h;split at h
  ·cases h;exact⟨⟨6,rfl⟩,by omega⟩
  ·cases h
 | r+1,i,least,h=>by
  unfold asksFrom at h
  cases hl:lackB K T m (1+2*i) least with
  | some e=>rw[hl]at h;cases h;exact lackB_some hl
  | none=>rw[hl]at h;exact asksFrom_some h
theorem asksB_some{K T c k:Nat}{m:List Gf.F}(h:asksB K T m=some (c,k)):(∃ d,c=d+1)/\k<=m.length:=by
 unfold asksB at h;split at h
 ·cases h;exact⟨⟨3,rfl⟩,Nat.le_refl _⟩
 split at h
 ·cases h;exact⟨⟨5,rfl⟩,by omega⟩
 ·exact asksFrom_some h
theorem head_none{l:List Gf.F}(h:headE l=none):4<=l.length/\kindB (bt l 0)=true/\objB (bt l 1)=true/\lenB (bt l 2*256+bt l 3)=true:=by
 unfold headE at h;split at h
 ·cases h
 split at h
 ·cases h
 rename_i h1;split at h
 ·cases h
 split at h
 ·cases h
 rename_i h2;split at h
 ·cases h
 split at h
 ·cases h
 rename_i h4 h3;exact⟨by omega,by simpa using h1,by simpa using h2,by simpa using h3⟩
theorem parse_any(A:Nat->Addr)(B0:Nat)(a:Option Addr)(b o n c K N S:Nat)(l:List Gf.F)(w:World)(hE:Errs A B0 w)(hET:ErrType w)(hB9:8<w.heap.size)(hcfg:Cfg K N S)(hl:l.length=n)(hn:n<=c)(hc:c<=9223372036854775807)(hn2:n<=140737488355328)(ha:0<n->a=some ⟨b,o,none⟩)(hB:Bs w b o l)(hb:0<n->b<w.heap.size):
 Calls Tryz.prog 40 #[.agg #[.int .i64 K,.int .i64 N,.int .i64 S],.slice a n c] w (ParseGives A K N S l w):=by
 have HCF:Hid (Cfg K N S):=hcfg;have hs8:=hcfg.s8;have hst:=PSt.start w K N S;clear hcfg;have hsE:=hE.size;go_enter Tryz.func40,Tryz.ntmps40;go_upto_region 1 with fail;generalize ((w.alloc (.cells #[.int .i64 K,.int .i64 N,.int .i64 S] 30)).alloc (.cells #[.int .i64 0,.int .i64 0,.int .i64 0,.int .i64 0,.int .i64 0,.slice none 0 0,.slice none 0 0] 60))=W at *;have hE0:=hst.errs hE;have hlt0:=hst.lt;have hB1:Bs W b o l:=fun i hi=>by rw[hst.low.cell (p:=⟨b,o+i,none⟩) (hb (by omega))];exact hB i hi
 go_wp2_with fail;refine(head_any A B0 a b o n c l W hE0 hl hn hc hn2 ha hB1 (fun h=>by have:=hb h;omega)).mono ?_;intro e W1 hH
 cases hhd:headE l with
 | some ep=>
  obtain⟨ec,ek⟩:=ep;unfold HeadGives at hH;rw[hhd]at hH;obtain⟨v,rfl,⟨pb,rfl,hpb,hblk0⟩,hbH⟩:=hH;have hblk:(W1.alloc (.cells #[.int .i64 0,.int .i64 0,.int .i64 0,.int .i64 0,.int .i64 0,.slice none 0 0,.slice none 0 0] 60)).heap[pb]?=_:=(Below.heap_alloc W1 _ pb (lt_of_block hblk0)).trans hblk0;have hst1:=hst.above ((hbH.mono hlt0).alloc (by have:=hbH.size;omega) (.cells #[.int .i64 0,.int .i64 0,.int .i64 0,.int .i64 0,.int .i64 0,.slice none 0 0,.slice none 0 0] 60));go_upto_region 3 with fail;generalize W1.alloc (.cells #[.int .i64 0,.int .i64 0,.int .i64 0,.int .i64 0,.int .i64 0,.slice none 0 0,.slice none 0 0] 60)=X at hst1 hblk ⊢;clear hst hE0 hB1 hblk0;obtain⟨c0,c1,c2,c3,c4,c5,c6⟩:=row7 hst1.res;have f0:=frozen_of_row X _ 0 _ _ hst1.res;have f1:=frozen_of_row X _ 1 _ _ hst1.res;have f2:=frozen_of_row X _ 2 _ _ hst1.res;have f3:=frozen_of_row X _ 3 _ _ hst1.res;have f4:=frozen_of_row X _ 4 _ _ hst1.res;have f5:=frozen_of_row X _ 5 _ _ hst1.res;have f6:=frozen_of_row X _ 6 _ _ hst1.res;have hp:=put7 X (w.heap.size+1) (.int .i64 0) (.int .i64 0) (.int .i64 0) (.int .i64 0) (.int .i64 0) (.slice none 0 0) (.slice none 0 0) (.int .i64 0) (.int .i64 0) (.int .i64 0) (.int .i64 0) (.int .i64 0) (.slice none 0 0) (.slice none 0 0) hst1.res;go_wp2_with fail;generalize (((((((X.setCell ⟨w.heap.size+1,0,none⟩ (.int .i64 0)).setCell ⟨w.heap.size+1,1,none⟩ (.int .i64 0)).setCell ⟨w.heap.size+1,2,none⟩ (.int .i64 0)).setCell ⟨w.heap.size+1,3,none⟩ (.int .i64 0)).setCell ⟨w.heap.size+1,4,none⟩ (.int .i64 0)).setCell ⟨w.heap.size+1,5,none⟩ (.slice none 0 0)).setCell ⟨w.heap.size+1,6,none⟩ (.slice none 0 0))=W9 at hp ⊢;obtain⟨hp1,hp2⟩:=hp;obtain⟨d0,d1,d2,d3,d4,d5,d6⟩:=row7 hp1;clear c0 c1 c2 c3 c4 c5 c6 f0 f1 f2 f3 f4 f5 f6;exact bodyPost_ret (v:=.tuple #[.agg #[.int .i64 0,.int .i64 0,.int .i64 0,.int .i64 0,.int .i64 0,.slice none 0 0,.slice none 0 0],.iface 166 (.pointer (some ⟨pb,0,none⟩))]) (by simp[results,Tryz.results40,go_sem,d0,d1,d2,d3,d4,d5,d6]) rfl (ParseGives.bad (by unfold parseE;rw[hhd]) ⟨pb,rfl,by omega,by rw[hp2.block pb (lt_of_block hblk) (by omega)];exact hblk⟩ (hst1.low.trans (hp2.toBelow (by have:=hst1.low.size;omega) (fun k hk q=>by omega))))
 | none=>
  unfold HeadGives at hH;rw[hhd]at hH;obtain⟨rfl,hbH⟩:=hH;obtain⟨hn4,hkb,_,hlb⟩:=head_none hhd;rw[hl]at hn4;have hL255:bt l 2*256+bt l 3<=255:=of_decide_eq_true hlb;have hkind:bt l 0=1∨bt l 0=2:=of_decide_eq_true hkb;clear hkb hlb;obtain rfl:=ha (by omega);have hbl:=hb (by omega);obtain⟨L,hLe⟩:∃ L:Nat,L=bt l 2*256+bt l 3:=⟨_,rfl⟩;rw[<- hLe]at hL255 ⊢;have HL:Hid (L=lenOf l):=hLe;have HD:Hid (headE l=none):=hhd;clear hLe hhd ha hb;obtain⟨T,hTe⟩:∃ T,T=symN S L:=⟨_,rfl⟩;have hT:T<=70000:=by have:=symN_range (S:=S) (len:=L) HCF.out.s1;omega
  have HT:Hid (T=symN S L):=hTe;have hlt1:=hbH.size;have hst1:=hst.above ((hbH.mono hlt0).alloc (by omega) (.cells #[.int .i64 (bt l 0:Int),.int .i64 (bt l 1:Int),.int .i64 L,.int .i64 0,.int .i64 0,.slice none 0 0,.slice none 0 0] 60));have hpk:(W1.alloc (.cells #[.int .i64 (bt l 0:Int),.int .i64 (bt l 1:Int),.int .i64 L,.int .i64 0,.int .i64 0,.slice none 0 0,.slice none 0 0] 60)).heap[W1.heap.size]?=some (.cells #[.int .i64 (bt l 0:Int),.int .i64 (bt l 1:Int),.int .i64 L,.int .i64 0,.int .i64 0,.slice none 0 0,.slice none 0 0] 60 (0,0)):=heap_alloc_new W1 _;have hsz1:W1.heap.size<(W1.alloc (.cells #[.int .i64 (bt l 0:Int),.int .i64 (bt l 1:Int),.int .i64 L,.int .i64 0,.int .i64 0,.slice none 0 0,.slice none 0 0] 60)).heap.size:=by simp
  go_upto_region 4 with fail;generalize W1.alloc (.cells #[.int .i64 (bt l 0:Int),.int .i64 (bt l 1:Int),.int .i64 L,.int .i64 0,.int .i64 0,.slice none 0 0,.slice none 0 0] 60)=X at hst1 hpk hsz1 ⊢;generalize hpp:W1.heap.size=pp at hpk hsz1 hlt1 ⊢;clear hst hE0 hB1 hbH hpp hTe;obtain⟨a',hae⟩:∃ a':Option Addr,a'=(if c=4 then some ⟨b,o,none⟩ else some ⟨b,o+4,none⟩):=⟨_,rfl⟩;have ha':0<n - 4->a'=some ⟨b,o+4,none⟩:=fun h=>by rw[hae,if_neg (by omega)]
  have hst2:=hst1.above ((Below.refl (w.heap.size+2) X).alloc hst1.lt (.cells #[.slice a' (n - 4) (c - 4),.int .i64 0] 160));have hR2:Rdr (X.alloc (.cells #[.slice a' (n - 4) (c - 4),.int .i64 0] 160)) X.heap.size (.slice a' (n - 4) (c - 4)) 0:=heap_alloc_new X _;have hpk2:(X.alloc (.cells #[.slice a' (n - 4) (c - 4),.int .i64 0] 160)).heap[pp]?=_:=(Below.heap_alloc X _ pp hsz1).trans hpk;go_upto_region 5 with fail;rw[<- hae];generalize X.alloc (.cells #[.slice a' (n - 4) (c - 4),.int .i64 0] 160)=Y at hst2 hR2 hpk2 ⊢;have hrbw:=hst1.lt;generalize hrb:X.heap.size=rb at hR2 hsz1 hrbw ⊢;clear hrb hst1 hpk hae;obtain⟨q0,q1,q2,q3,q4,q5,q6⟩:=row7 hpk2;have k0:Y.cell? ⟨w.heap.size,0,none⟩=some (.int .i64 K):=cell_of_row Y _ 0 _ _ _ hst2.cfg;have k1:Y.cell? ⟨w.heap.size,1,none⟩=some (.int .i64 N):=cell_of_row Y _ 1 _ _ _ hst2.cfg;have k2:Y.cell? ⟨w.heap.size,2,none⟩=some (.int .i64 S):=cell_of_row Y _ 2 _ _ _ hst2.cfg;go_wp2_with fail;refine(of_any K N S L HCF.out (by omega) Y).mono ?_;rintro e Y1 ⟨rfl,hbY⟩;rw[<- HT.out];have hszY:=hst2.lt;have hlr:=hR2.lt;have hbY2:Below Y.heap.size Y (Y1.alloc (.cells #[.int .i64 K,.int .i64 N,.int .i64 S,.int .i64 T] 148)):=hbY.alloc hbY.size _;have hst3:=hst2.above (hbY2.mono hszY);have hR3:Rdr (Y1.alloc (.cells #[.int .i64 K,.int .i64 N,.int .i64 S,.int .i64 T] 148)) rb (.slice a' (n - 4) (c - 4)) 0:=hR2.kept (hbY2.block _ hlr);have hpk3:(Y1.alloc (.cells #[.int .i64 K,.int .i64 N,.int .i64 S,.int .i64 T] 148)).heap[pp]?=_:=(hbY2.block _ (lt_of_block hpk2)).trans hpk2;have hpl3:(Y1.alloc (.cells #[.int .i64 K,.int .i64 N,.int .i64 S,.int .i64 T] 148)).heap[Y1.heap.size]?=some (.cells #[.int .i64 K,.int .i64 N,.int .i64 S,.int .i64 T] 148 (0,0)):=heap_alloc_new Y1 _;go_upto_region 6 with fail;generalize Y1.alloc (.cells #[.int .i64 K,.int .i64 N,.int .i64 S,.int .i64 T] 148)=V at hst3 hR3 hpk3 hpl3 ⊢;have hplw:w.heap.size+2<=Y1.heap.size:=by have:=hbY.size;omega
  generalize hpb0:Y1.heap.size=pl at hpl3 hplw ⊢;clear hpb0 hbY hbY2 hst2 hR2 hpk2 q0 q1 q2 q3 q4 q5 q6 k0 k1 k2;obtain⟨q0,q1,q2,q3,q4,q5,q6⟩:=row7 hpk3;have f3:=frozen_of_row V _ 3 _ _ hpk3;have f4:=frozen_of_row V _ 4 _ _ hpk3;have f5:=frozen_of_row V _ 5 _ _ hpk3;have f6:=frozen_of_row V _ 6 _ _ hpk3;have k2:V.cell? ⟨w.heap.size,2,none⟩=some (.int .i64 S):=cell_of_row V _ 2 _ _ _ hst3.cfg;have t0:V.cell? ⟨pl,0,none⟩=some (.int .i64 K):=cell_of_row V _ 0 _ _ _ hpl3;have t1:V.cell? ⟨pl,1,none⟩=some (.int .i64 N):=cell_of_row V _ 1 _ _ _ hpl3;have t2:V.cell? ⟨pl,2,none⟩=some (.int .i64 S):=cell_of_row V _ 2 _ _ _ hpl3;have t3:V.cell? ⟨pl,3,none⟩=some (.int .i64 T):=cell_of_row V _ 3 _ _ _ hpl3;have hEV:=hst3.errs hE;have hm:(l.drop 4).length=n - 4:=by simp[hl]
  have hBV:Bs V b (o+4) (l.drop 4):=fun i hi=>by
   have h1:=hB (4+i) (by rw[hl];rw[hm]at hi;omega);rw[hst3.low.cell (p:=⟨b,o+4+i,none⟩) hbl,show o+4+i=o+(4+i) by omega,h1];simp[at_,List.getD]
  have hbrb:b≠rb:=by omega
  have hltV:=hst3.lt;rcases hkind with hk1|hk2
  ·rw[hk1]at q0 ⊢
   go_wp2_with fail;refine(data_any A B0 a' b (o+4) (n - 4) (c - 4) rb K N S T (l.drop 4) V hEV (by omega) HCF.out hT hR3 hm (by omega) (by omega) (by omega) ha' hBV (fun _=>⟨hbrb,by omega⟩)).mono ?_;intro e V1 hG;obtain⟨hG1,hG2⟩:=hG;have hst4:=hst3.above (hG2.toBelow hltV (fun k hk q=>by omega));have hltV4:=hst4.lt;have hpk4:V1.heap[pp]?=some (.cells #[.int .i64 1,.int .i64 (bt l 1:Int),.int .i64 L,.int .i64 0,.int .i64 0,.slice none 0 0,.slice none 0 0] 60 (0,0)):=by rw[hG2.block _ (lt_of_block hpk3) (by omega)];rw[hk1]at hpk3;exact hpk3
   have hppV:=lt_of_block hpk3;clear q0 q1 q2 q3 q4 q5 q6 f3 f4 f5 f6 k2 t0 t1 t2 t3;have q3:V1.cell? ⟨pp,3,none⟩=some (.int .i64 0):=cell_of_row V1 _ 3 _ _ _ hpk4;have q4:V1.cell? ⟨pp,4,none⟩=some (.int .i64 0):=cell_of_row V1 _ 4 _ _ _ hpk4;have q5:V1.cell? ⟨pp,5,none⟩=some (.slice none 0 0):=cell_of_row V1 _ 5 _ _ _ hpk4;have f3:=frozen_of_row V1 _ 3 _ _ hpk4;have f4:=frozen_of_row V1 _ 4 _ _ hpk4;have f5:=frozen_of_row V1 _ 5 _ _ hpk4
   cases hdb:dataB K N S T (l.drop 4) with
   | some ep=>
    obtain⟨ec,ek⟩:=ep;rw[hdb]at hG1;obtain⟨x,y,a1,n1,z1,v,rfl,⟨pb,rfl,hpb,hblk0⟩⟩:=hG1;obtain⟨⟨d,rfl⟩,hek⟩:=dataB_some hdb;rw[E_succ]at hblk0;have hp2:=put345 V1 pp _ _ _ _ _ _ _ (.int .i64 x) (.int .i64 y) (.slice a1 n1 z1) hpk4
    have hBAD:parseE K N S l=some (d+1,ek+4):=by
     unfold parseE;rw[HD.out];show Option.map _ _=_;rw[if_pos hk1,<- HL.out,<- HT.out,hdb];rfl
    go_upto_region 10 with fail;generalize ((V1.setCell ⟨pp,3,none⟩ (.int .i64 x)).setCell ⟨pp,4,none⟩ (.int .i64 y)).setCell ⟨pp,5,none⟩ (.slice a1 n1 z1)=V2 at hp2 ⊢;obtain⟨hp21,hp22⟩:=hp2;have hst5:=hst4.above (hp22.toBelow hltV4 (fun k hk q=>by omega));have hltV5:=hst5.lt;have hblk1:V2.heap[pb]?=some (.cells #[.int .i64 ek,.iface 269 (.pointer (some (A d)))] 168 (0,0)):=by rw[hp22.block _ (lt_of_block hblk0) (by omega)];exact hblk0
    have hsz5:=hp22.size;go_wp2_with fail;refine(behind_any pb ek _ _ V2 (by rw[hm]at hek;omega) hblk1 (hET.below hst5.low hB9) (by omega)).mono ?_;rintro e V3 ⟨v,rfl,⟨pb3,rfl,hpb3,hblk3⟩,hb3⟩;have hst6:=hst5.above (hb3.mono hltV5);clear hst5 hst4 hst3 hblk1 hblk0 hp21 hp22;obtain⟨c0,c1,c2,c3,c4,c5,c6⟩:=row7 hst6.res;have f0:=frozen_of_row V3 _ 0 _ _ hst6.res;have f1:=frozen_of_row V3 _ 1 _ _ hst6.res;have f2:=frozen_of_row V3 _ 2 _ _ hst6.res;have f3:=frozen_of_row V3 _ 3 _ _ hst6.res;have f4:=frozen_of_row V3 _ 4 _ _ hst6.res;have f5:=frozen_of_row V3 _ 5 _ _ hst6.res;have f6:=frozen_of_row V3 _ 6 _ _ hst6.res;have hp:=put7 V3 (w.heap.size+1) (.int .i64 0) (.int .i64 0) (.int .i64 0) (.int .i64 0) (.int .i64 0) (.slice none 0 0) (.slice none 0 0) (.int .i64 0) (.int .i64 0) (.int .i64 0) (.int .i64 0) (.int .i64 0) (.slice none 0 0) (.slice none 0 0) hst6.res;go_wp2_with fail;generalize (((((((V3.setCell ⟨w.heap.size+1,0,none⟩ (.int .i64 0)).setCell ⟨w.heap.size+1,1,none⟩ (.int .i64 0)).setCell ⟨w.heap.size+1,2,none⟩ (.int .i64 0)).setCell ⟨w.heap.size+1,3,none⟩ (.int .i64 0)).setCell ⟨w.heap.size+1,4,none⟩ (.int .i64 0)).setCell ⟨w.heap.size+1,5,none⟩ (.slice none 0 0)).setCell ⟨w.heap.size+1,6,none⟩ (.slice none 0 0))=W9 at hp ⊢;obtain⟨hp1,hp2⟩:=hp;obtain⟨d0,d1,d2,d3,d4,d5,d6⟩:=row7 hp1;clear c0 c1 c2 c3 c4 c5 c6 f0 f1 f2 f3 f4 f5 f6;exact bodyPost_ret (v:=.tuple #[.agg #[.int .i64 0,.int .i64 0,.int .i64 0,.int .i64 0,.int .i64 0,.slice none 0 0,.slice none 0 0],.iface 166 (.pointer (some ⟨pb3,0,none⟩))]) (by simp[results,Tryz.results40,go_sem,d0,d1,d2,d3,d4,d5,d6]) rfl (ParseGives.bad hBAD ⟨pb3,rfl,by omega,by rw[hp2.block pb3 (lt_of_block hblk3) (by omega)];exact hblk3⟩ (hst6.low.trans (hp2.toBelow (by have:=hst6.low.size;omega) (fun k hk q=>by omega))))
   | none=>
    rw[hdb]at hG1;obtain⟨a1,z1,rfl,hown⟩:=hG1;have hp2:=put345 V1 pp _ _ _ _ _ _ _ (.int .i64 (bt (l.drop 4) 0:Int)) (.int .i64 (bt (l.drop 4) 1:Int)) (.slice a1 S z1) hpk4;go_upto_region 11 with fail;generalize ((V1.setCell ⟨pp,3,none⟩ (.int .i64 (bt (l.drop 4) 0:Int))).setCell ⟨pp,4,none⟩ (.int .i64 (bt (l.drop 4) 1:Int))).setCell ⟨pp,5,none⟩ (.slice a1 S z1)=V2 at hp2 ⊢;obtain⟨hp21,hp22⟩:=hp2;have hst5:=hst4.above (hp22.toBelow hltV4 (fun k hk q=>by omega));have hown2:=hp22.own hown (fun g hg q=>by have:=(hown.lt g hg).1;omega);obtain⟨q0,q1,q2,q3',q4',q5',q6⟩:=row7 hp21;clear q3 q4 q5 f3 f4 f5 hst4 hst3 hpk4 hp22;obtain⟨c0,c1,c2,c3,c4,c5,c6⟩:=row7 hst5.res;have f0:=frozen_of_row V2 _ 0 _ _ hst5.res;have f1:=frozen_of_row V2 _ 1 _ _ hst5.res;have f2:=frozen_of_row V2 _ 2 _ _ hst5.res;have f3:=frozen_of_row V2 _ 3 _ _ hst5.res;have f4:=frozen_of_row V2 _ 4 _ _ hst5.res;have f5:=frozen_of_row V2 _ 5 _ _ hst5.res;have f6:=frozen_of_row V2 _ 6 _ _ hst5.res;have hp:=put7 V2 (w.heap.size+1) (.int .i64 0) (.int .i64 0) (.int .i64 0) (.int .i64 0) (.int .i64 0) (.slice none 0 0) (.slice none 0 0) (.int .i64 1) (.int .i64 (bt l 1:Int)) (.int .i64 L) (.int .i64 (bt (l.drop 4) 0:Int)) (.int .i64 (bt (l.drop 4) 1:Int)) (.slice a1 S z1) (.slice none 0 0) hst5.res
    have hNONE:parseE K N S l=none:=by
     unfold parseE;rw[HD.out];show Option.map _ _=_;rw[if_pos hk1,<- HL.out,<- HT.out,hdb];rfl
    go_wp2_with fail;generalize (((((((V2.setCell ⟨w.heap.size+1,0,none⟩ (.int .i64 1)).setCell ⟨w.heap.size+1,1,none⟩ (.int .i64 (bt l 1:Int))).setCell ⟨w.heap.size+1,2,none⟩ (.int .i64 L)).setCell ⟨w.heap.size+1,3,none⟩ (.int .i64 (bt (l.drop 4) 0:Int))).setCell ⟨w.heap.size+1,4,none⟩ (.int .i64 (bt (l.drop 4) 1:Int))).setCell ⟨w.heap.size+1,5,none⟩ (.slice a1 S z1)).setCell ⟨w.heap.size+1,6,none⟩ (.slice none 0 0))=W9 at hp ⊢;obtain⟨hp1,hp2⟩:=hp;obtain⟨d0,d1,d2,d3,d4,d5,d6⟩:=row7 hp1;clear c0 c1 c2 c3 c4 c5 c6 f0 f1 f2 f3 f4 f5 f6
    exact bodyPost_ret (v:=.tuple #[.agg #[.int .i64 1,.int .i64 (bt l 1:Int),.int .i64 L,.int .i64 (bt (l.drop 4) 0:Int),.int .i64 (bt (l.drop 4) 1:Int),.slice a1 S z1,.slice none 0 0],.nilIface]) (by simp[results,Tryz.results40,go_sem,d0,d1,d2,d3,d4,d5,d6]) rfl (by
     refine⟨?_,hst5.low.trans (hp2.toBelow (by have:=hst5.low.size;omega) (fun k hk q=>by omega))⟩;rw[hNONE,if_pos hk1];refine⟨a1,z1,by rw[hk1,<- HL.out];rfl,own_base2 (hp2.own hown2 (fun g hg q=>by have:=(hown2.lt g hg).1;omega)) (by omega)⟩)
  ·rw[hk2]at q0 ⊢
   go_wp2_with fail;refine(asks_any A B0 a' b (o+4) (n - 4) (c - 4) rb K N S T (l.drop 4) V hEV (by omega) HCF.out hT hR3 hm (by omega) (by omega) (by omega) ha' hBV (fun _=>⟨hbrb,by omega⟩)).mono ?_;intro e V1 hG;obtain⟨hG1,hG2⟩:=hG;have hst4:=hst3.above (hG2.toBelow hltV (fun k hk q=>by omega));have hltV4:=hst4.lt;have hpk4:V1.heap[pp]?=some (.cells #[.int .i64 2,.int .i64 (bt l 1:Int),.int .i64 L,.int .i64 0,.int .i64 0,.slice none 0 0,.slice none 0 0] 60 (0,0)):=by rw[hG2.block _ (lt_of_block hpk3) (by omega)];rw[hk2]at hpk3;exact hpk3
   have hppV:=lt_of_block hpk3;clear q0 q1 q2 q3 q4 q5 q6 f3 f4 f5 f6 k2 t0 t1 t2 t3;have q6:V1.cell? ⟨pp,6,none⟩=some (.slice none 0 0):=cell_of_row V1 _ 6 _ _ _ hpk4;have f6:=frozen_of_row V1 _ 6 _ _ hpk4
   cases hdb:asksB K T (l.drop 4) with
   | some ep=>
    obtain⟨ec,ek⟩:=ep;rw[hdb]at hG1;obtain⟨a1,n1,z1,v,rfl,⟨pb,rfl,hpb,hblk0⟩⟩:=hG1;obtain⟨⟨d,rfl⟩,hek⟩:=asksB_some hdb;rw[E_succ]at hblk0;have hp2:=put6 V1 pp _ _ _ _ _ _ _ (.slice a1 n1 z1) hpk4
    have hBAD:parseE K N S l=some (d+1,ek+4):=by
     unfold parseE;rw[HD.out];show Option.map _ _=_;rw[if_neg (by omega:¬ bt l 0=1),<- HL.out,<- HT.out,hdb];rfl
    go_upto_region 10 with fail;generalize V1.setCell ⟨pp,6,none⟩ (.slice a1 n1 z1)=V2 at hp2 ⊢;obtain⟨hp21,hp22⟩:=hp2;have hst5:=hst4.above (hp22.toBelow hltV4 (fun k hk q=>by omega));have hltV5:=hst5.lt;have hblk1:V2.heap[pb]?=some (.cells #[.int .i64 ek,.iface 269 (.pointer (some (A d)))] 168 (0,0)):=by rw[hp22.block _ (lt_of_block hblk0) (by omega)];exact hblk0
    have hsz5:=hp22.size;go_wp2_with fail;refine(behind_any pb ek _ _ V2 (by rw[hm]at hek;omega) hblk1 (hET.below hst5.low hB9) (by omega)).mono ?_;rintro e V3 ⟨v,rfl,⟨pb3,rfl,hpb3,hblk3⟩,hb3⟩;have hst6:=hst5.above (hb3.mono hltV5);clear hst5 hst4 hst3 hblk1 hblk0 hp21 hp22;obtain⟨c0,c1,c2,c3,c4,c5,c6⟩:=row7 hst6.res;have f0:=frozen_of_row V3 _ 0 _ _ hst6.res;have f1:=frozen_of_row V3 _ 1 _ _ hst6.res;have f2:=frozen_of_row V3 _ 2 _ _ hst6.res;have f3:=frozen_of_row V3 _ 3 _ _ hst6.res;have f4:=frozen_of_row V3 _ 4 _ _ hst6.res;have f5:=frozen_of_row V3 _ 5 _ _ hst6.res;have f6:=frozen_of_row V3 _ 6 _ _ hst6.res;have hp:=put7 V3 (w.heap.size+1) (.int .i64 0) (.int .i64 0) (.int .i64 0) (.int .i64 0) (.int .i64 0) (.slice none 0 0) (.slice none 0 0) (.int .i64 0) (.int .i64 0) (.int .i64 0) (.int .i64 0) (.int .i64 0) (.slice none 0 0) (.slice none 0 0) hst6.res;go_wp2_with fail;generalize (((((((V3.setCell ⟨w.heap.size+1,0,none⟩ (.int .i64 0)).setCell ⟨w.heap.size+1,1,none⟩ (.int .i64 0)).setCell ⟨w.heap.size+1,2,none⟩ (.int .i64 0)).setCell ⟨w.heap.size+1,3,none⟩ (.int .i64 0)).setCell ⟨w.heap.size+1,4,none⟩ (.int .i64 0)).setCell ⟨w.heap.size+1,5,none⟩ (.slice none 0 0)).setCell ⟨w.heap.size+1,6,none⟩ (.slice none 0 0))=W9 at hp ⊢;obtain⟨hp1,hp2⟩:=hp;obtain⟨d0,d1,d2,d3,d4,d5,d6⟩:=row7 hp1;clear c0 c1 c2 c3 c4 c5 c6 f0 f1 f2 f3 f4 f5 f6;exact bodyPost_ret (v:=.tuple #[.agg #[.int .i64 0,.int .i64 0,.int .i64 0,.int .i64 0,.int .i64 0,.slice none 0 0,.slice none 0 0],.iface 166 (.pointer (some ⟨pb3,0,none⟩))]) (by simp[results,Tryz.results40,go_sem,d0,d1,d2,d3,d4,d5,d6]) rfl (ParseGives.bad hBAD ⟨pb3,rfl,by omega,by rw[hp2.block pb3 (lt_of_block hblk3) (by omega)];exact hblk3⟩ (hst6.low.trans (hp2.toBelow (by have:=hst6.low.size;omega) (fun k hk q=>by omega))))
   | none=>
    rw[hdb]at hG1;obtain⟨a1,z1,rfl,hown⟩:=hG1;have hp2:=put6 V1 pp _ _ _ _ _ _ _ (.slice a1 (bt (l.drop 4) 0) z1) hpk4;go_upto_region 11 with fail;generalize V1.setCell ⟨pp,6,none⟩ (.slice a1 (bt (l.drop 4) 0) z1)=V2 at hp2 ⊢;obtain⟨hp21,hp22⟩:=hp2;have hst5:=hst4.above (hp22.toBelow hltV4 (fun k hk q=>by omega));have hown2:=hp22.own hown (fun g hg q=>by have:=(hown.lt g hg).1;omega);obtain⟨q0,q1,q2,q3',q4',q5',q6'⟩:=row7 hp21;clear q6 f6 hst4 hst3 hpk4 hp22;obtain⟨c0,c1,c2,c3,c4,c5,c6⟩:=row7 hst5.res;have f0:=frozen_of_row V2 _ 0 _ _ hst5.res;have f1:=frozen_of_row V2 _ 1 _ _ hst5.res;have f2:=frozen_of_row V2 _ 2 _ _ hst5.res;have f3:=frozen_of_row V2 _ 3 _ _ hst5.res;have f4:=frozen_of_row V2 _ 4 _ _ hst5.res;have f5:=frozen_of_row V2 _ 5 _ _ hst5.res;have f6:=frozen_of_row V2 _ 6 _ _ hst5.res;have hp:=put7 V2 (w.heap.size+1) (.int .i64 0) (.int .i64 0) (.int .i64 0) (.int .i64 0) (.int .i64 0) (.slice none 0 0) (.slice none 0 0) (.int .i64 2) (.int .i64 (bt l 1:Int)) (.int .i64 L) (.int .i64 0) (.int .i64 0) (.slice none 0 0) (.slice a1 (bt (l.drop 4) 0) z1) hst5.res
    have hNONE:parseE K N S l=none:=by
     unfold parseE;rw[HD.out];show Option.map _ _=_;rw[if_neg (by omega:¬ bt l 0=1),<- HL.out,<- HT.out,hdb];rfl
    go_wp2_with fail;generalize (((((((V2.setCell ⟨w.heap.size+1,0,none⟩ (.int .i64 2)).setCell ⟨w.heap.size+1,1,none⟩ (.int .i64 (bt l 1:Int))).setCell ⟨w.heap.size+1,2,none⟩ (.int .i64 L)).setCell ⟨w.heap.size+1,3,none⟩ (.int .i64 0)).setCell ⟨w.heap.size+1,4,none⟩ (.int .i64 0)).setCell ⟨w.heap.size+1,5,none⟩ (.slice none 0 0)).setCell ⟨w.heap.size+1,6,none⟩ (.slice a1 (bt (l.drop 4) 0) z1))=W9 at hp ⊢;obtain⟨hp1,hp2⟩:=hp;obtain⟨d0,d1,d2,d3,d4,d5,d6⟩:=row7 hp1;clear c0 c1 c2 c3 c4 c5 c6 f0 f1 f2 f3 f4 f5 f6
    exact bodyPost_ret (v:=.tuple #[.agg #[.int .i64 2,.int .i64 (bt l 1:Int),.int .i64 L,.int .i64 0,.int .i64 0,.slice none 0 0,.slice a1 (bt (l.drop 4) 0) z1],.nilIface]) (by simp[results,Tryz.results40,go_sem,d0,d1,d2,d3,d4,d5,d6]) rfl (by
     refine⟨?_,hst5.low.trans (hp2.toBelow (by have:=hst5.low.size;omega) (fun k hk q=>by omega))⟩;rw[hNONE,if_neg (by omega:¬ bt l 0=1)];refine⟨a1,z1,by rw[hk2,<- HL.out];rfl,own_base2 (hp2.own hown2 (fun g hg q=>by have:=(hown2.lt g hg).1;omega)) (by omega)⟩)
def by8(x:Nat):Gf.F:=BitVec.ofNat 8 x
theorem headBytes_any(kd obj len x0 x3 x4:Nat)(v5 v6:Value)(w:World)(hk:kd<256)(ho:obj<256)(hl:len<65536):
 Calls Tryz.prog 63 #[.int .u8 (kd:Int),.agg #[.int .i64 x0,.int .i64 obj,.int .i64 len,.int .i64 x3,.int .i64 x4,v5,v6]] w fun e w'=>
  e=.returned (.slice (some ⟨w.heap.size+1,0,none⟩) 4 4)/\Blk w' (w.heap.size+1) [by8 kd,by8 obj,by8 (len/256),by8 len]/\Below w.heap.size w w'/\w'.heap.size=w.heap.size+2:=by
 go_enter Tryz.func63,Tryz.ntmps63;go_wp2;go_ret;refine⟨rfl,?_,((Below.refl _ _).alloc (Nat.le_refl _) _).alloc (by simp) _,by simp⟩;have:=heap_alloc_new (w.alloc (.cells #[.int .i64 x0,.int .i64 obj,.int .i64 len,.int .i64 x3,.int .i64 x4,v5,v6] 60)) (.cells #[.int .u8 (kd:Int),.int .u8 (obj:Int),.int .u8 ((len:Int)/256),.int .u8 ((len:Int)%256)] 5);have e2:(w.alloc (.cells #[.int .i64 x0,.int .i64 obj,.int .i64 len,.int .i64 x3,.int .i64 x4,v5,v6] 60)).heap.size=w.heap.size+1:=by simp
 rw[e2]at this;unfold Blk;rw[this];have h1:((by8 kd).toNat:Int)=(kd:Int):=by unfold by8;rw[BitVec.toNat_ofNat];omega
 have h2:((by8 obj).toNat:Int)=(obj:Int):=by unfold by8;rw[BitVec.toNat_ofNat];omega
 have h3:((by8 (len/256)).toNat:Int)=(len:Int)/256:=by unfold by8;rw[BitVec.toNat_ofNat];omega
 have h4:((by8 len).toNat:Int)=(len:Int)%256:=by unfold by8;rw[BitVec.toNat_ofNat];omega
 simp[enc,h1,h2,h3,h4]
theorem blk_own{w:World}{g B:Nat}{l:List Gf.F}(h:Blk w g l)(hB:B<=g)(hl:l.length<=1000):w.ownsRow B 5 1 (.slice (some ⟨g,0,none⟩) l.length l.length) l.length (encL l):=
 ⟨by simp[encL],.inr ⟨g,l.length,enc l,rfl,hB,h,Nat.le_refl _,by unfold maxLen;omega,by simp[enc],by simp only[enc,encL];exact List.take_of_length_le (by simp)⟩⟩
theorem headBytes_own(kd obj len x0 x3 x4:Nat)(v5 v6:Value)(w:World)(hk:kd<256)(ho:obj<256)(hl:len<65536):
 Calls Tryz.prog 63 #[.int .u8 (kd:Int),.agg #[.int .i64 x0,.int .i64 obj,.int .i64 len,.int .i64 x3,.int .i64 x4,v5,v6]] w fun e w'=>
  ∃ g,e=.returned (.slice (some ⟨g,0,none⟩) 4 4)/\w'.ownsRow w.heap.size 5 1 (.slice (some ⟨g,0,none⟩) 4 4) 4 (encL [by8 kd,by8 obj,by8 (len/256),by8 len])/\Below w.heap.size w w':=by
 refine(headBytes_any kd obj len x0 x3 x4 v5 v6 w hk ho hl).mono ?_;rintro e w' ⟨rfl,hB,hb,_⟩;exact⟨w.heap.size+1,rfl,blk_own (l:=[by8 kd,by8 obj,by8 (len/256),by8 len]) hB (by omega) (by simp),hb⟩
def dataOf(obj len q pl:Nat)(d:List Gf.F):List Gf.F:=[by8 1,by8 obj,by8 (len/256),by8 len,by8 q,by8 pl]++d
theorem by8_int{x:Nat}(h:x<256):((by8 x).toNat:Int)=(x:Int):=by unfold by8;rw[BitVec.toNat_ofNat];omega
theorem pk7{W:World}{g:Nat}{v0 v1 v2 v3 v4 v5 v6:Value}{t:TypeId}(h:W.heap[g]?=some (.cells #[v0,v1,v2,v3,v4,v5,v6] t (0,0))):W.cell? ⟨g,0,none⟩=some v0/\W.cell? ⟨g,1,none⟩=some v1/\W.cell? ⟨g,2,none⟩=some v2/\W.cell? ⟨g,3,none⟩=some v3/\W.cell? ⟨g,4,none⟩=some v4/\W.cell? ⟨g,5,none⟩=some v5/\W.cell? ⟨g,6,none⟩=some v6:=
 ⟨cell_of_row W _ 0 _ _ _ h,cell_of_row W _ 1 _ _ _ h,cell_of_row W _ 2 _ _ _ h,cell_of_row W _ 3 _ _ _ h,cell_of_row W _ 4 _ _ _ h,cell_of_row W _ 5 _ _ _ h,cell_of_row W _ 6 _ _ _ h⟩
theorem wrap_by8(x:Nat):IntKind.u8.wrap (x:Int)=((by8 x).toNat:Int):=by
 unfold by8 IntKind.wrap;rw[BitVec.toNat_ofNat];simp[IntKind.signed,IntKind.bits]
theorem two_kept{W w1:World}{g:Nat}{u v:Value}{t:TypeId}(hb:Below W.heap.size W w1)(h:W.heap[g]?=some (.cells #[u,v] t (0,0))):∀ j x,[u,v][j]?=some x->w1.cell? ((⟨g,0,none⟩:Addr).add j)=some x:=by
 intro j x hj;have e:(⟨g,0,none⟩:Addr).add j=⟨g,j,none⟩:=by unfold Addr.add;split<;>simp_all
 have h1:=(hb.block _ (lt_of_block h)).trans h;rw[e,cell_of_row w1 g j _ _ _ h1]
 match j,hj with
 | 0,h=>simpa using h
 | 1,h=>simpa using h
theorem dataBytes_any(obj len q pl db dd nd dc:Nat)(d:List Gf.F)(w:World)(ho:obj<256)(hl:len<65536)(hd:d.length=nd)(hd1:1<=nd)(hd8:nd<=1000)(hB:Bs w db dd d):
 Calls Tryz.prog 117 #[.agg #[.int .i64 0,.int .i64 obj,.int .i64 len,.int .i64 q,.int .i64 pl,.slice (some ⟨db,dd,none⟩) nd dc,.slice none 0 0]] w fun e w'=>
  ∃ g cap,e=.returned (.slice (some ⟨g,0,none⟩) (6+nd) cap)/\w'.ownsRow w.heap.size 5 1 (.slice (some ⟨g,0,none⟩) (6+nd) cap) (6+nd) (encL (dataOf obj len q pl d))/\Below w.heap.size w w':=by
 obtain⟨iU,hiU,hiU0,hiU1,hiU2⟩:=Tryz.u8_parts;have hX:=heap_alloc_new w (.cells #[.int .i64 0,.int .i64 obj,.int .i64 len,.int .i64 q,.int .i64 pl,.slice (some ⟨db,dd,none⟩) nd dc,.slice none 0 0] 60);have hbW:=(Below.refl w.heap.size w).alloc (Nat.le_refl _) (.cells #[.int .i64 0,.int .i64 obj,.int .i64 len,.int .i64 q,.int .i64 pl,.slice (some ⟨db,dd,none⟩) nd dc,.slice none 0 0] 60);go_enter Tryz.func117,Tryz.ntmps117;go_upto_region 1 with fail;generalize w.alloc (.cells #[.int .i64 0,.int .i64 obj,.int .i64 len,.int .i64 q,.int .i64 pl,.slice (some ⟨db,dd,none⟩) nd dc,.slice none 0 0] 60)=W at *;have hXl:=lt_of_block hX
 go_cut[3] (fun t wx=>∃ g cap,t=.slice (some ⟨g,0,none⟩) 6 cap/\wx.ownsRow w.heap.size 5 1 (.slice (some ⟨g,0,none⟩) 6 cap) 6 (encL [by8 1,by8 obj,by8 (len/256),by8 len,by8 q,by8 pl])/\Below W.heap.size W wx)
 case first=>
  have hS:W.cell? ⟨w.heap.size,0,none⟩=some (.int .i64 0)/\W.cell? ⟨w.heap.size,1,none⟩=some (.int .i64 obj)/\W.cell? ⟨w.heap.size,2,none⟩=some (.int .i64 len)/\W.cell? ⟨w.heap.size,3,none⟩=some (.int .i64 q)/\W.cell? ⟨w.heap.size,4,none⟩=some (.int .i64 pl)/\W.cell? ⟨w.heap.size,5,none⟩=some (.slice (some ⟨db,dd,none⟩) nd dc)/\W.cell? ⟨w.heap.size,6,none⟩=some (.slice none 0 0):=
   ⟨cell_of_row W _ 0 _ _ _ hX,cell_of_row W _ 1 _ _ _ hX,cell_of_row W _ 2 _ _ _ hX,cell_of_row W _ 3 _ _ _ hX,cell_of_row W _ 4 _ _ _ hX,cell_of_row W _ 5 _ _ _ hX,cell_of_row W _ 6 _ _ _ hX⟩
  obtain⟨k0,k1,k2,k3,k4,k5,k6⟩:=hS;have hXn:¬ w.heap.size=W.heap.size:=Nat.ne_of_lt hXl;have hX2:(W.alloc (.cells #[.int .u8 (IntKind.u8.wrap (q:Int)),.int .u8 (IntKind.u8.wrap (pl:Int))] 5)).drew.heap[w.heap.size]?=some (.cells #[.int .i64 0,.int .i64 obj,.int .i64 len,.int .i64 q,.int .i64 pl,.slice (some ⟨db,dd,none⟩) nd dc,.slice none 0 0] 60 (0,0)):=(Below.heap_alloc W _ _ hXl).trans hX;have hXl2:=lt_of_block hX2
  go_region_held3 (fun w'=>w'.cell? ⟨w.heap.size,0,none⟩=some (.int .i64 0)/\w'.cell? ⟨w.heap.size,1,none⟩=some (.int .i64 obj)/\w'.cell? ⟨w.heap.size,2,none⟩=some (.int .i64 len)/\w'.cell? ⟨w.heap.size,3,none⟩=some (.int .i64 q)/\w'.cell? ⟨w.heap.size,4,none⟩=some (.int .i64 pl)/\w'.cell? ⟨w.heap.size,5,none⟩=some (.slice (some ⟨db,dd,none⟩) nd dc)/\w'.cell? ⟨w.heap.size,6,none⟩=some (.slice none 0 0)) (first | go_keep) (first
   | (go_at_call 63;refine(headBytes_own 1 obj len 0 q pl _ _ _ (by omega) ho hl).mono ?_;rintro e w1 ⟨g1,rfl,hown1,hb1⟩;(have hX1:w1.heap[w.heap.size]?=some (.cells #[.int .i64 0,.int .i64 obj,.int .i64 len,.int .i64 q,.int .i64 pl,.slice (some ⟨db,dd,none⟩) nd dc,.slice none 0 0] 60 (0,0)):=by first | exact(hb1.block _ hXl).trans hX|exact(hb1.block _ hXl2).trans hX2);obtain⟨m0,m1,m2,m3,m4,m5,m6⟩:=pk7 hX1;have hl1:=lt_of_block hX1;have hl2:¬ w.heap.size=w1.heap.size:=Nat.ne_of_lt hl1;have hgn:¬(Value.slice (some ⟨g1,0,none⟩) 4 4).ownBlock=some w.heap.size:=(fun hqq=>by have:=(hown1.lt _ hqq).1;first | omega|(simp at this;omega));(first | (have hnews:=two_kept hb1 (heap_alloc_new W (.cells #[.int .u8 (IntKind.u8.wrap (q:Int)),.int .u8 (IntKind.u8.wrap (pl:Int))] 5));have hwA:w.heap.size<=(W.alloc (.cells #[.int .u8 (IntKind.u8.wrap (q:Int)),.int .u8 (IntKind.u8.wrap (pl:Int))] 5)).drew.heap.size:=Nat.le_of_lt hXl2)|skip))
   | (refine step_append_lies _ (by rfl) _ _ _ (by rfl) w.heap.size 5 iU (.int .u8 0) 1 1 Tryz.underlying33 hiU hiU0 hiU1 hiU2 rfl (by omega) (.slice (some ⟨g1,0,none⟩) 4 4) 4 (encL [by8 1,by8 obj,by8 (len/256),by8 len]) (by rfl) ((own_base2 hown1 (Nat.le_of_lt hXl)).alloc _) ⟨w1.heap.size,0,none⟩ 2 2 [.int .u8 (IntKind.u8.wrap (q:Int)),.int .u8 (IntKind.u8.wrap (pl:Int))] (by rfl) rfl (cell_two_at w1 _ _ _ _ rfl) (by intro u hu;simp at hu;rcases hu with rfl|rfl<;>rfl) (by omega) (by unfold maxLen;omega) (by omega) (by simp;omega) _ rfl ?_;intro g2 cap2 w3 hown3 hgr3 hlie3 hlt3;have hX3:w3.heap[w.heap.size]?=some (.cells #[.int .i64 0,.int .i64 obj,.int .i64 len,.int .i64 q,.int .i64 pl,.slice (some ⟨db,dd,none⟩) nd dc,.slice none 0 0] 60 (0,0)):=(grown_block hgr3 (by simp;omega) hgn).trans ((Below.heap_alloc w1 _ _ hl1).trans hX1);obtain⟨n0,n1,n2,n3,n4,n5,n6⟩:=pk7 hX3)
   | (refine step_append_lies _ (by rfl) _ _ _ (by rfl) w.heap.size 5 iU (.int .u8 0) 1 1 Tryz.underlying33 hiU hiU0 hiU1 hiU2 rfl (by omega) (.slice (some ⟨g1,0,none⟩) 4 4) 4 (encL [by8 1,by8 obj,by8 (len/256),by8 len]) (by rfl) (own_base2 hown1 hwA) ⟨W.heap.size,0,none⟩ 2 2 [.int .u8 (IntKind.u8.wrap (q:Int)),.int .u8 (IntKind.u8.wrap (pl:Int))] (by rfl) rfl (hnews) (by intro u hu;simp at hu;rcases hu with rfl|rfl<;>rfl) (by omega) (by unfold maxLen;omega) (by omega) (by omega) _ rfl ?_;intro g2 cap2 w3 hown3 hgr3 hlie3 hlt3;have hX3:w3.heap[w.heap.size]?=some (.cells #[.int .i64 0,.int .i64 obj,.int .i64 len,.int .i64 q,.int .i64 pl,.slice (some ⟨db,dd,none⟩) nd dc,.slice none 0 0] 60 (0,0)):=(grown_block hgr3 (hl1) hgn).trans (hX1);obtain⟨n0,n1,n2,n3,n4,n5,n6⟩:=pk7 hX3))
  all_goals go_wp2_with fail
  all_goals go_meet
  all_goals (have eL:encL [by8 1,by8 obj,by8 (len/256),by8 len]++[Value.int .u8 (IntKind.u8.wrap (q:Int)),Value.int .u8 (IntKind.u8.wrap (pl:Int))]=encL [by8 1,by8 obj,by8 (len/256),by8 len,by8 q,by8 pl]:=by simp[encL,wrap_by8])
  all_goals rw[eL]at hown3
  all_goals first
   | exact⟨g2,cap2,rfl,hown3,((Below.undraw hb1).alloc (by have:=hb1.size;exact this) _).grown hgr3 (by have:=hb1.size;simp;exact Nat.le_succ_of_le this) (fun t ht=>(hown1.lt t ht).1)⟩
   | exact⟨g2,cap2,rfl,hown3,((((Below.refl _ W).alloc (Nat.le_refl _) _).drew).trans (hb1.mono (by simp))).grown hgr3 (by have:=hb1.size;simp at this;omega) (fun t ht=>by have:=(hown1.lt t ht).1;simp at this;omega)⟩
 case rest=>
  obtain⟨g,cap,rfl,hown,hbx⟩:=hcut;have hXc:=(hbx.block _ hXl).trans hX;obtain⟨k0,k1,k2,k3,k4,k5,k6⟩:=pk7 hXc;have hBw:Bs wc db dd d:=(hB.below hbW (hB.lt (by omega))).below hbx (Nat.lt_of_lt_of_le (hB.lt (by omega)) hbW.size);have HC:=hBw.cells;have hsz:w.heap.size<=wc.heap.size:=Nat.le_trans hbW.size hbx.size;go_wp2_with (at_builtin;refine wpList_append_lies _ rfl _ _ _ rfl w.heap.size 5 iU (.int .u8 0) 1 1 Tryz.underlying33 hiU hiU0 hiU1 hiU2 rfl (by omega) (.slice (some ⟨g,0,none⟩) 6 cap) 6 (encL [by8 1,by8 obj,by8 (len/256),by8 len,by8 q,by8 pl]) rfl hown ⟨db,dd,none⟩ nd dc (encL d) rfl ?c1 ?c2 (encL_one d) (by omega) ?c3 (by omega) hsz wc.heap.size rfl ?_)
  case c1=>simp[encL,hd]
  case c2=>exact HC
  case c3=>unfold maxLen;omega
  intro g6 cap6 w6 hown6 hgr6 hlie6 hlt6;go_wp2_with fail;go_ret;refine⟨g6,cap6,rfl,?_,(hbW.trans (hbx.mono hbW.size)).grown hgr6 hsz (fun t ht=>(hown.lt t ht).1)⟩;have e:encL (dataOf obj len q pl d)=encL [by8 1,by8 obj,by8 (len/256),by8 len,by8 q,by8 pl]++encL d:=by simp[encL,dataOf]
  rw[e];exact hown6
def flat2(ps:List (Value×Value)):List Value:=ps.flatMap fun p=>[p.1,p.2]
theorem flat2_cons(p:Value×Value)(ps:List (Value×Value)):flat2 (p :: ps)=p.1 :: p.2 :: flat2 ps:=rfl
theorem flat2_append(ps qs:List (Value×Value)):flat2 (ps++qs)=flat2 ps++flat2 qs:=by simp[flat2]
theorem flat2_get0:∀(ps:List (Value×Value)) (i:Nat),(flat2 ps)[2*i]?=(ps[i]?).map (·.1)
 | [],i=>by simp[flat2]
 | p :: ps,0=>by simp[flat2_cons]
 | p :: ps,i+1=>by rw[flat2_cons,show 2*(i+1)=2*i+1+1 by omega,List.getElem?_cons_succ,List.getElem?_cons_succ,List.getElem?_cons_succ];exact flat2_get0 ps i
theorem flat2_get1:∀(ps:List (Value×Value)) (i:Nat),(flat2 ps)[2*i+1]?=(ps[i]?).map (·.2)
 | [],i=>by simp[flat2]
 | p :: ps,0=>by simp[flat2_cons]
 | p :: ps,i+1=>by rw[flat2_cons,show 2*(i+1)+1=2*i+1+1+1 by omega,List.getElem?_cons_succ,List.getElem?_cons_succ,List.getElem?_cons_succ];exact flat2_get1 ps i
theorem flat2_set0:∀(ps:List (Value×Value)) (i:Nat) (v:Value) (p:Value×Value),ps[i]?=some p->(flat2 ps).set (2*i) v=flat2 (ps.set i (v,p.2))
 | [],i,v,p,h=>by simp at h
 | q :: ps,0,v,p,h=>by simp at h;subst h;rfl
 | q :: ps,i+1,v,p,h=>by
  rw[flat2_cons,show 2*(i+1)=2*i+1+1 by omega,List.set_cons_succ,List.set_cons_succ,List.set_cons_succ,flat2_cons,flat2_set0 ps i v p (by simpa using h)]
theorem flat2_set1:∀(ps:List (Value×Value)) (i:Nat) (v:Value) (p:Value×Value),ps[i]?=some p->(flat2 ps).set (2*i+1) v=flat2 (ps.set i (p.1,v))
 | [],i,v,p,h=>by simp at h
 | q :: ps,0,v,p,h=>by simp at h;subst h;rfl
 | q :: ps,i+1,v,p,h=>by
  rw[flat2_cons,show 2*(i+1)+1=2*i+1+1+1 by omega,List.set_cons_succ,List.set_cons_succ,List.set_cons_succ,flat2_cons,flat2_set1 ps i v p (by simpa using h)]
structure Ob where
 l:List Gf.F
 ds:List (Nat×Nat)
 a:Option Addr
 c:Nat
 dg:Nat
def Ob.bv(o:Ob):Value:=.slice o.a o.l.length o.c
def Ob.dv(o:Ob):Value:=.slice (some ⟨o.dg,0,none⟩) o.ds.length o.ds.length
def ob0:Ob:=⟨[],[],none,0,0⟩
def oat(os:List Ob)(i:Nat):Ob:=os.getD i ob0
def dat(ds:List (Nat×Nat))(i:Nat):Nat×Nat:=ds.getD i (0,0)
def debtVals(ds:List (Nat×Nat)):List (Value×Value):=ds.map fun d=>(.int .i64 (d.1:Int),.int .i64 (d.2:Int))
def objVals(os:List Ob):List (Value×Value):=os.map fun o=>(o.bv,o.dv)
structure Snd where
 K:Nat
 N:Nat
 S:Nat
 os:List Ob
 vo:Value
 no:Nat
 ns:Nat
def Snd.T(s:Snd)(i:Nat):Nat:=symN s.S (oat s.os i).l.length
def Snd.Q(s:Snd)(i:Nat):Nat:=partsN (s.T i) s.K
def Snd.R(s:Snd)(i q:Nat):Nat:=(s.N - s.K)+srcN s.K (s.T i) q
structure Snd.Ok0(s:Snd):Prop where
 cfg:Cfg s.K s.N s.S
 few:s.os.length<=16
 len:∀ i,i<s.os.length->(oat s.os i).l.length<=255
structure Snd.Ok(s:Snd):Prop extends Snd.Ok0 s where
 blocks:∀ i,i<s.os.length->(oat s.os i).ds.length=s.Q i
 debt:∀ i q,i<s.os.length->q<s.Q i->(dat (oat s.os i).ds q).1<=8/\(dat (oat s.os i).ds q).2<s.R i q
 next:s.no<=s.os.length
 sym:s.no<s.os.length->s.ns<s.T s.no
 done:s.no=s.os.length->s.ns=0
def Snd.foot(s:Snd)(sb b:Nat):Prop:=b=sb∨s.vo.ownBlock=some b∨∃ i,i<s.os.length/\(b=(oat s.os i).dg∨(oat s.os i).bv.ownBlock=some b)
structure SAt(w:World)(B sb:Nat)(s:Snd):Prop where
 low:B<=sb
 blk:w.heap[sb]?=some (.cells #[.int .i64 (s.K:Int),.int .i64 (s.N:Int),.int .i64 (s.S:Int),s.vo,.int .i64 (s.no:Int),.int .i64 (s.ns:Int)] 116 (0,0))
 own:w.ownsRow B 120 2 s.vo s.os.length (flat2 (objVals s.os))
 bytes:∀ i,i<s.os.length->w.ownsRow B 5 1 (oat s.os i).bv (oat s.os i).l.length (encL (oat s.os i).l)
 debts:∀ i,i<s.os.length->B<=(oat s.os i).dg/\w.heap[(oat s.os i).dg]?=some (.cells (flat2 (debtVals (oat s.os i).ds)).toArray 125 (0,0))
 apart:∀ i j,i<s.os.length->j<s.os.length->(oat s.os i).dg=(oat s.os j).dg->i=j
theorem SAt.foot_lt{w:World}{B sb:Nat}{s:Snd}(h:SAt w B sb s){b:Nat}(hb:s.foot sb b):B<=b/\b<w.heap.size:=by
 rcases hb with rfl|hb|⟨i,hi,rfl|hb⟩
 ·exact⟨h.low,lt_of_block h.blk⟩
 ·exact h.own.lt b hb
 ·exact⟨(h.debts i hi).1,lt_of_block (h.debts i hi).2⟩
 ·exact(h.bytes i hi).lt b hb
theorem SAt.kept{w w':World}{B sb:Nat}{s:Snd}(h:SAt w B sb s)(hk:∀ b,s.foot sb b->w'.heap[b]?=w.heap[b]?):SAt w' B sb s:=
 ⟨h.low,(hk sb (.inl rfl)).trans h.blk,own_of_block h.own (fun g hg=>hk g (.inr (.inl hg))),
  fun i hi=>own_of_block (h.bytes i hi) (fun g hg=>hk g (.inr (.inr ⟨i,hi,.inr hg⟩))),
  fun i hi=>⟨(h.debts i hi).1,(hk _ (.inr (.inr ⟨i,hi,.inl rfl⟩))).trans (h.debts i hi).2⟩,h.apart⟩
theorem SAt.above{w w':World}{B sb:Nat}{s:Snd}(h:SAt w B sb s)(hb:Below w.heap.size w w'):SAt w' B sb s:=h.kept (fun b q=>hb.block b (h.foot_lt q).2)
theorem oat_some{os:List Ob}{i:Nat}(hi:i<os.length):os[i]?=some (oat os i):=by simp[oat,List.getD,hi]
theorem dat_some{ds:List (Nat×Nat)}{i:Nat}(hi:i<ds.length):ds[i]?=some (dat ds i):=by simp[dat,List.getD,hi]
theorem SAt.cells{w:World}{B sb:Nat}{s:Snd}(h:SAt w B sb s):
 w.cell? ⟨sb,0,none⟩=some (.int .i64 (s.K:Int))/\w.cell? ⟨sb,1,none⟩=some (.int .i64 (s.N:Int))/\w.cell? ⟨sb,2,none⟩=some (.int .i64 (s.S:Int))/\w.cell? ⟨sb,3,none⟩=some s.vo/\w.cell? ⟨sb,4,none⟩=some (.int .i64 (s.no:Int))/\w.cell? ⟨sb,5,none⟩=some (.int .i64 (s.ns:Int)):=
 ⟨cell_of_row w _ 0 _ _ _ h.blk,cell_of_row w _ 1 _ _ _ h.blk,cell_of_row w _ 2 _ _ _ h.blk,cell_of_row w _ 3 _ _ _ h.blk,cell_of_row w _ 4 _ _ _ h.blk,cell_of_row w _ 5 _ _ _ h.blk⟩
theorem SAt.frozen{w:World}{B sb:Nat}{s:Snd}(h:SAt w B sb s)(i:Nat):w.frozen? ⟨sb,i,none⟩=false:=frozen_of_row w sb i _ _ h.blk
theorem SAt.list{w:World}{B sb:Nat}{s:Snd}(h:SAt w B sb s)(h0:0<s.os.length):∃ g c,s.vo=.slice (some ⟨g,0,none⟩) s.os.length c/\s.os.length<=c/\
 ∀ i,i<s.os.length->w.cell? ⟨g,i*2,none⟩=some (oat s.os i).bv/\w.cell? ⟨g,i*2+1,none⟩=some (oat s.os i).dv:=by
 obtain⟨g,c,hv,hc⟩:∃ g c,s.vo=.slice (some ⟨g,0,none⟩) s.os.length c/\s.os.length<=c:=by
  rcases h.own.2 with⟨_,h2⟩|⟨g,cap,cur,h1,_,_,h4,_⟩
  ·omega
  ·exact⟨g,cap,h1,h4⟩
 refine⟨g,c,hv,hc,fun i hi=>?_⟩;have e:∀ j,(⟨g,0,none⟩:Addr).add j=⟨g,j,none⟩:=fun j=>by unfold Addr.add;split<;>simp_all
 have h0:=h.own.cells (g:=g) (by rw[hv];rfl) (2*i) (oat s.os i).bv (by rw[flat2_get0,objVals,List.getElem?_map,oat_some hi];rfl);have h1:=h.own.cells (g:=g) (by rw[hv];rfl) (2*i+1) (oat s.os i).dv (by rw[flat2_get1,objVals,List.getElem?_map,oat_some hi];rfl);rw[e]at h0 h1;rw[Nat.mul_comm i 2];exact⟨h0,h1⟩
theorem SAt.debt{w:World}{B sb:Nat}{s:Snd}(h:SAt w B sb s){i q:Nat}(hi:i<s.os.length)(hq:q<(oat s.os i).ds.length):
 w.cell? ⟨(oat s.os i).dg,q*2,none⟩=some (.int .i64 ((dat (oat s.os i).ds q).1:Int))/\w.cell? ⟨(oat s.os i).dg,q*2+1,none⟩=some (.int .i64 ((dat (oat s.os i).ds q).2:Int)):=by
 have hd:=(h.debts i hi).2;refine⟨?_,?_⟩
 ·rw[cell_of_row w _ _ _ _ _ hd,Nat.mul_comm q 2]
  rw[List.getElem?_toArray,flat2_get0,debtVals,List.getElem?_map,dat_some hq];rfl
 ·rw[cell_of_row w _ _ _ _ _ hd,Nat.mul_comm q 2]
  rw[List.getElem?_toArray,flat2_get1,debtVals,List.getElem?_map,dat_some hq];rfl
theorem four{W:World}{g:Nat}{v0 v1 v2 v3:Value}{t:TypeId}(h:W.heap[g]?=some (.cells #[v0,v1,v2,v3] t (0,0))):W.cell? ⟨g,0,none⟩=some v0/\W.cell? ⟨g,1,none⟩=some v1/\W.cell? ⟨g,2,none⟩=some v2/\W.cell? ⟨g,3,none⟩=some v3/\W.frozen? ⟨g,0,none⟩=false/\W.frozen? ⟨g,1,none⟩=false/\W.frozen? ⟨g,2,none⟩=false/\W.frozen? ⟨g,3,none⟩=false:=
 ⟨cell_of_row W _ 0 _ _ _ h,cell_of_row W _ 1 _ _ _ h,cell_of_row W _ 2 _ _ _ h,cell_of_row W _ 3 _ _ _ h,frozen_of_row W _ 0 _ _ h,frozen_of_row W _ 1 _ _ h,frozen_of_row W _ 2 _ _ h,frozen_of_row W _ 3 _ _ h⟩
theorem put4(W:World)(g:Nat)(v0 v1 v2 v3 u0 u1 u2 u3:Value)(t:TypeId)(h:W.heap[g]?=some (.cells #[v0,v1,v2,v3] t (0,0))):
 ((((W.setCell ⟨g,0,none⟩ u0).setCell ⟨g,1,none⟩ u1).setCell ⟨g,2,none⟩ u2).setCell ⟨g,3,none⟩ u3).heap[g]?=some (.cells #[u0,u1,u2,u3] t (0,0))/\
 But (fun b=>b=g) W ((((W.setCell ⟨g,0,none⟩ u0).setCell ⟨g,1,none⟩ u1).setCell ⟨g,2,none⟩ u2).setCell ⟨g,3,none⟩ u3):=by
 have h0:(W.setCell ⟨g,0,none⟩ u0).heap[g]?=some (.cells #[u0,v1,v2,v3] t (0,0)):=heap_setCell_same _ g 0 _ _ u0 h;have h1:((W.setCell ⟨g,0,none⟩ u0).setCell ⟨g,1,none⟩ u1).heap[g]?=some (.cells #[u0,u1,v2,v3] t (0,0)):=heap_setCell_same _ g 1 _ _ u1 h0;have h2:(((W.setCell ⟨g,0,none⟩ u0).setCell ⟨g,1,none⟩ u1).setCell ⟨g,2,none⟩ u2).heap[g]?=some (.cells #[u0,u1,u2,v3] t (0,0)):=heap_setCell_same _ g 2 _ _ u2 h1;have h3:((((W.setCell ⟨g,0,none⟩ u0).setCell ⟨g,1,none⟩ u1).setCell ⟨g,2,none⟩ u2).setCell ⟨g,3,none⟩ u3).heap[g]?=some (.cells #[u0,u1,u2,u3] t (0,0)):=heap_setCell_same _ g 3 _ _ u3 h2;have b0:=But.setCell (S:=fun b=>b=g) (But.refl _ W) (p:=⟨g,0,none⟩) (.inl rfl) u0;have b1:=But.setCell b0 (p:=⟨g,1,none⟩) (.inl rfl) u1;have b2:=But.setCell b1 (p:=⟨g,2,none⟩) (.inl rfl) u2;exact⟨h3,But.setCell b2 (p:=⟨g,3,none⟩) (.inl rfl) u3⟩
theorem plan_any{B sb i:Nat}{s:Snd}{w:World}(h:SAt w B sb s)(ok:s.Ok0)(hi:i<s.os.length):
 Calls Tryz.prog 69 #[.pointer (some ⟨sb,0,none⟩),.int .i64 i] w fun e w'=>
  e=.returned (.agg #[.int .i64 (s.K:Int),.int .i64 (s.N:Int),.int .i64 (s.S:Int),.int .i64 (s.T i:Int)])/\Below w.heap.size w w':=by
 have hbW:=(Below.refl w.heap.size w).alloc (Nat.le_refl _) (.cells #[.int .i64 0,.int .i64 0,.int .i64 0,.int .i64 0] 148);have hX:=heap_alloc_new w (.cells #[.int .i64 0,.int .i64 0,.int .i64 0,.int .i64 0] 148);have hW:=h.above hbW;have hlen:=ok.len i hi;have hfew:=ok.few;have hof:=fun W=>of_any s.K s.N s.S (oat s.os i).l.length ok.cfg (by omega) W
 have HT:Hid (s.T i=symN s.S (oat s.os i).l.length):=rfl;go_enter Tryz.func69,Tryz.ntmps69;go_upto_region 1 with fail;generalize w.alloc (.cells #[.int .i64 0,.int .i64 0,.int .i64 0,.int .i64 0] 148)=W at *;obtain⟨c0,c1,c2,c3,_,_⟩:=hW.cells;obtain⟨g,cp,hv,hcp,hl⟩:=hW.list (by omega);obtain⟨t0,_⟩:=hl i hi;unfold Ob.bv at t0;rw[hv]at c3;have hXl:=lt_of_block hX;have hsl:¬ sb=w.heap.size:=Nat.ne_of_lt (lt_of_block h.blk);have hgl:¬ g=w.heap.size:=Nat.ne_of_lt (h.own.lt g (by rw[hv];rfl)).2;have hsl2:=Ne.symm hsl;have hgl2:=Ne.symm hgl;have hlt1:(0:Int)<=(i:Int):=by omega
 have hlt2:(i:Int)<(s.os.length:Int):=by omega
 generalize (oat s.os i).l.length=len at *;generalize (oat s.os i).a=va at *;generalize (oat s.os i).c=vc at *;clear hl hv
 go_region_held3 (fun w'=>w'.cell? ⟨sb,0,none⟩=some (.int .i64 (s.K:Int))/\w'.cell? ⟨sb,1,none⟩=some (.int .i64 (s.N:Int))/\w'.cell? ⟨sb,2,none⟩=some (.int .i64 (s.S:Int))/\w'.cell? ⟨sb,3,none⟩=some (.slice (some ⟨g,0,none⟩) s.os.length cp)/\w'.cell? ⟨g,i*2,none⟩=some (.slice va len vc)) (first | go_keep|exact hkeep) (first
  | (go_at_call 60;refine(hof _).mono ?_;rintro e w1 ⟨rfl,hb1⟩;obtain⟨hkeep,hX1⟩:=show(w1.cell? ⟨sb,0,none⟩=some (.int .i64 (s.K:Int))/\w1.cell? ⟨sb,1,none⟩=some (.int .i64 (s.N:Int))/\w1.cell? ⟨sb,2,none⟩=some (.int .i64 (s.S:Int))/\w1.cell? ⟨sb,3,none⟩=some (.slice (some ⟨g,0,none⟩) s.os.length cp)/\w1.cell? ⟨g,i*2,none⟩=some (.slice va len vc))/\w1.heap[w.heap.size]?=some (.cells #[.int .i64 0,.int .i64 0,.int .i64 0,.int .i64 0] 148 (0,0)) from ⟨⟨by rw[hb1.cell (lt_of_cell c0)];exact c0,by rw[hb1.cell (lt_of_cell c1)];exact c1,by rw[hb1.cell (lt_of_cell c2)];exact c2,by rw[hb1.cell (lt_of_cell c3)];exact c3,by rw[hb1.cell (lt_of_cell t0)];exact t0⟩,(hb1.block _ hXl).trans hX⟩;obtain⟨x0,x1,x2,x3,f0,f1,f2,f3⟩:=four hX1))
 all_goals go_wp2_with fail
 obtain⟨hp1,hp2⟩:=put4 w1 w.heap.size _ _ _ _ (.int .i64 (s.K:Int)) (.int .i64 (s.N:Int)) (.int .i64 (s.S:Int)) (.int .i64 (symN s.S len:Int)) _ hX1;have hlow:Below w.heap.size w w1:=hbW.trans ((Below.undraw hb1).mono hbW.size);have hsz:=hlow.size;generalize (((w1.setCell ⟨w.heap.size,0,none⟩ (.int .i64 (s.K:Int))).setCell ⟨w.heap.size,1,none⟩ (.int .i64 (s.N:Int))).setCell ⟨w.heap.size,2,none⟩ (.int .i64 (s.S:Int))).setCell ⟨w.heap.size,3,none⟩ (.int .i64 (symN s.S len:Int))=W9 at hp1 hp2 ⊢;obtain⟨z0,z1,z2,z3,_⟩:=four hp1;exact bodyPost_ret (v:=.agg #[.int .i64 (s.K:Int),.int .i64 (s.N:Int),.int .i64 (s.S:Int),.int .i64 (symN s.S len:Int)]) (by simp[results,Tryz.results69,go_sem,z0,z1,z2,z3]) rfl ⟨by rw[HT.out],hlow.trans (hp2.toBelow hsz (fun k hk q=>by omega))⟩
theorem repairs_any{B sb:Nat}{s:Snd}{w:World}(h:SAt w B sb s)(ok:s.Ok0):
 Calls Tryz.prog 73 #[.pointer (some ⟨sb,0,none⟩)] w fun e w'=>e=.returned (.int .i64 ((s.N - s.K:Nat):Int))/\Below w.heap.size w w':=by
 obtain⟨c0,c1,_,_,_,_⟩:=h.cells;obtain⟨k1,k8,kn,n16,s1,s8⟩:=ok.cfg;have HR:Hid (((s.N - s.K:Nat):Int)=(s.N:Int) - (s.K:Int)):=by show _=_;omega
 go_enter Tryz.func73,Tryz.ntmps73;go_wp2_with fail
 go_quiet (fail)
 go_wp2_with fail;go_ret;exact⟨ret_int HR.out.symm,below_drew rfl⟩
def plcAt(K N t:Nat):Nat:=if t<N - K then K+t else t - (N - K)
theorem placeAt_any{B sb:Nat}{s:Snd}{w:World}(t:Nat)(ht:t<=1000)(h:SAt w B sb s)(ok:s.Ok0):
 Calls Tryz.prog 72 #[.pointer (some ⟨sb,0,none⟩),.int .i64 t] w fun e w'=>e=.returned (.int .i64 (plcAt s.K s.N t:Int))/\Below w.heap.size w w':=by
 obtain⟨k1,k8,kn,n16,s1,s8⟩:=ok.cfg;have hr0:=repairs_any h ok;by_cases hq:t<s.N - s.K
 ·have hq1:(t:Int)<((s.N - s.K:Nat):Int):=by omega
  have HP:Hid ((plcAt s.K s.N t:Int)=(s.K:Int)+(t:Int)):=by show _=_;unfold plcAt;rw[if_pos hq];push_cast;rfl
  go_enter Tryz.func72,Tryz.ntmps72;go_wp2_with fail;refine hr0.mono ?_;rintro e w1 ⟨rfl,hb1⟩;obtain⟨c0,_⟩:=(h.above hb1).cells;go_wp2_with fail;go_ret;exact⟨ret_int HP.out.symm,hb1⟩
 ·have hq1:¬(t:Int)<((s.N - s.K:Nat):Int):=by omega
  have HP:Hid ((plcAt s.K s.N t:Int)=(t:Int) - ((s.N - s.K:Nat):Int)):=by show _=_;unfold plcAt;rw[if_neg hq];omega
  go_enter Tryz.func72,Tryz.ntmps72;go_wp2_with fail;refine hr0.mono ?_;rintro e w1 ⟨rfl,hb1⟩;go_wp2_with fail;refine(repairs_any (h.above hb1) ok).mono ?_;rintro e w2 ⟨rfl,hb2⟩;go_wp2_with fail;go_ret;exact⟨ret_int HP.out.symm,hb1.trans (hb2.mono hb1.size)⟩
def srcRows(S:Nat)(l:List Gf.F)(o k:Nat):List Row:=(List.range k).map fun j=>⟨0,0,0,symAt S l (o+j)⟩
theorem srcRows_at(S:Nat)(l:List Gf.F)(o k j:Nat)(hj:j<k):(rat (srcRows S l o k) j).l=symAt S l (o+j):=by simp[rat,srcRows,List.getD,hj]
def symPl(K S:Nat)(l:List Gf.F)(q pl:Nat):List Gf.F:=symOf (front (srcN K (symN S l.length) q)) (srcRows S l (q*K) (srcN K (symN S l.length) q)) (by8 pl) S
theorem symPl_length(K S:Nat)(l:List Gf.F)(q pl:Nat):(symPl K S l q pl).length=S:=symOf_length ..
def Snd.pkt(s:Snd)(i q pl:Nat):List Gf.F:=dataOf i (oat s.os i).l.length q pl (symPl s.K s.S (oat s.os i).l q pl)
theorem Ob.form{w:World}{B:Nat}{o:Ob}(h:w.ownsRow B 5 1 o.bv o.l.length (encL o.l)):∃ b,(o.a=some ⟨b,0,none⟩∨o.a=none/\o.l.length=0/\o.c=0)/\o.l.length<=o.c/\o.c<=9223372036854775807/\Bs w b 0 o.l/\(0<o.l.length->b<w.heap.size):=by
 have h':=h;rcases h.2 with⟨h1,h2⟩|⟨g,cap,cur,h1,_,h3,h4,h5,_⟩
 ·unfold Ob.bv at h1
  simp only[Value.slice.injEq]at h1;exact⟨0,.inr ⟨h1.1,h2,h1.2.2⟩,by omega,by omega,fun i hi=>by omega,fun h0=>by omega⟩
 ·unfold Ob.bv at h1 h'
  simp only[Value.slice.injEq]at h1;obtain⟨e1,_,e2⟩:=h1;rw[e1]at h';exact⟨g,.inl e1,by omega,by unfold maxLen at h5;omega,own_bs h' rfl,fun _=>lt_of_block h3⟩
theorem data_snd{B sb i q:Nat}{s:Snd}{w:World}(pl:Nat)(h:SAt w B sb s)(ok:s.Ok0)(hi:i<s.os.length)(hq:q<s.Q i)(hpl:pl<256):
 Calls Tryz.prog 71 #[.pointer (some ⟨sb,0,none⟩),.int .i64 i,.int .i64 q,.int .i64 pl] w fun e w'=>
  ∃ g cap,e=.returned (.slice (some ⟨g,0,none⟩) (6+s.S) cap)/\w'.ownsRow w.heap.size 5 1 (.slice (some ⟨g,0,none⟩) (6+s.S) cap) (6+s.S) (encL (s.pkt i q pl))/\Below w.heap.size w w':=by
 obtain⟨k1,k8,kn,n16,s1,s8⟩:=ok.cfg;have hlen:=ok.len i hi;have hfew:=ok.few;obtain⟨b,ha,hlc,hcap,hB,hbl⟩:=Ob.form (h.bytes i hi);have hTr:=symN_range (S:=s.S) (len:=(oat s.os i).l.length) s1;have hqK:q*s.K<s.T i:=partsN_mul k1 hq;have hQl:=partsN_le (a:=s.T i) k1;have hT2:s.T i<=256:=by unfold Snd.T;omega
 have hq2:q<256:=by unfold Snd.Q at hq;omega
 obtain⟨c0,c1,c2,c3,_,_⟩:=h.cells;obtain⟨g,cp,hv,hcp,hl⟩:=h.list (by omega);obtain⟨t0,_⟩:=hl i hi;have hplan:=plan_any h ok hi
 have hsrc:=fun W hb=>planSource_any s.K s.N s.S (s.T i) b 0 (oat s.os i).l.length (oat s.os i).c q (oat s.os i).a (oat s.os i).l W ok.cfg rfl hqK rfl hlen hlc hcap ha (show Bs W b 0 (oat s.os i).l from hb) (fun h0=>by
  have:=hb 0 h0;exact lt_of_cell this)
 have hk1:1<=srcN s.K (s.T i) q:=by unfold srcN;omega
 have hk8:srcN s.K (s.T i) q<=8:=by unfold srcN;omega
 have HPK:Hid (s.pkt i q pl=dataOf i (oat s.os i).l.length q pl (symOf (front (srcN s.K (s.T i) q)) (srcRows s.S (oat s.os i).l (q*s.K) (srcN s.K (s.T i) q)) (by8 pl) s.S)):=rfl;have HSA:Hid (∀ j,j<srcN s.K (s.T i) q->(rat (srcRows s.S (oat s.os i).l (q*s.K) (srcN s.K (s.T i) q)) j).l=symAt s.S (oat s.os i).l (q*s.K+j)):=fun j hj=>srcRows_at _ _ _ _ _ hj
 have HSL:Hid (∀ j,(symAt s.S (oat s.os i).l j).length=s.S):=fun j=>symAt_length _ _ _
 have hiL:i<256:=by omega
 unfold Ob.bv at t0;rw[hv]at c3;have hlt1:(0:Int)<=(i:Int):=by omega
 have hlt2:(i:Int)<(s.os.length:Int):=by omega
 have hlen2:(oat s.os i).l.length<65536:=by omega
 generalize hLL:(oat s.os i).l=L at *;generalize (oat s.os i).a=va at *;generalize (oat s.os i).c=vc at *;generalize srcRows s.S L (q*s.K) (srcN s.K (s.T i) q)=sr at *;have HQK:Hid (∀ j,symAt s.S L (q*s.K+j)=symAt s.S L (q*s.K+j)):=fun _=>rfl
 generalize srcN s.K (s.T i) q=k at *
 have HSRC:Hid (∀(W:World),Bs W b 0 L->Calls Tryz.prog 116 #[.agg #[.int .i64 (s.K:Int),.int .i64 (s.N:Int),.int .i64 (s.S:Int),.int .i64 (s.T i:Int)],.slice va L.length vc,.int .i64 q] W fun e w'=>
  ∃ g rs,e=.returned (.slice (some ⟨g,0,none⟩) k k)/\rs.length=k/\w'.heap[g]?=some (.cells (rsCells rs k) 33 (0,0))/\W.heap.size<=g/\NewRows w' (g+1) rs/\(∀ i,i<rs.length->(rat rs i).l=symAt s.S L (q*s.K+i))/\Below W.heap.size W w'):=hsrc
 clear hsrc hl hv ha hTr hqK hQl hlc;go_enter Tryz.func71,Tryz.ntmps71;go_wp2_with fail;refine hplan.mono ?_;rintro e w1 ⟨rfl,hb1⟩
 have hB1:Bs w1 b 0 L:=by
  by_cases h0:0<L.length
  ·exact hB.below hb1 (hbl h0)
  ·intro j hj;omega
 clear c0 c1 c2 c3 t0;go_wp2_with fail;refine(HSRC.out w1 hB1).mono ?_;rintro e w2 ⟨g2,rs,rfl,hrl,hg2,hgl2,hNR,hsy,hb2⟩;have HRL:Hid (rs.length=k):=hrl;have HG2:Hid (w2.heap[g2]?=some (.cells (rsCells rs k) 33 (0,0))):=hg2;have HSY:Hid (∀ i,i<rs.length->(rat rs i).l=symAt s.S L (q*s.K+i)):=hsy;clear hg2 hsy hrl hplan;go_wp2_with fail;refine(sourcePlaces_any k w2 hk8).mono ?_;rintro e w3 ⟨rfl,hF3,hb3,-⟩;have hg3:=(hb3.block _ (lt_of_block HG2.out)).trans HG2.out;have hR3:=(hNR.below hb3).rs HRL.out hg3;have hlow3:=fun(j:Nat) (hj:j<rs.length)=>((hNR.below hb3).blk j hj).lt
 have HR3:Hid (Rs w3 g2 0 rs):=hR3;have HLOW3:Hid (∀ j,j<rs.length->(rat rs j).b<w3.heap.size):=hlow3;have HLEN3:Hid (∀ j,j<rs.length->(rat rs j).l.length=s.S):=fun j hj=>by rw[HSY.out j hj];exact HSL.out _
 clear hR3 hlow3 hg3;go_wp2_with fail;refine(blockSymbol_z w2.heap.size 0 k g2 0 k s.S k (front k) rs _ (by8 pl) w3 ?hz (front_length k) HRL.out (by omega) hk8 (by omega) hF3.bs HR3.out HLEN3.out HLOW3.out).mono ?_
 case hz=>exact(by8_int hpl).symm
 rintro e w4 ⟨rfl,hG4,hb4,-⟩;have hsym:symOf (front k) rs (by8 pl) s.S=symOf (front k) sr (by8 pl) s.S:=symOf_congr (fun j hj=>by rw[front_length]at hj;rw[HSY.out j (by rw[HRL.out];exact hj),HSA.out j hj]);rw[hsym]at hG4;clear hsym;have hlow4:Below w.heap.size w w4:=((hb1.trans (hb2.mono hb1.size)).trans (hb3.mono (Nat.le_trans hb1.size hb2.size))).trans (hb4.mono (Nat.le_trans (Nat.le_trans hb1.size hb2.size) hb3.size));have hz4:=hlow4.size;generalize hD:symOf (front k) sr (by8 pl) s.S=D at *;have hDl:D.length=s.S:=by rw[<- hD];exact symOf_length ..
 clear hb1 hb2 hb3 hb4 hF3 hNR;go_wp2_with fail;refine(dataBytes_any i L.length q pl w3.heap.size 0 s.S s.S D w4 hiL hlen2 hDl s1 (by omega) hG4.bs).mono ?_;rintro e w5 ⟨g5,cap5,rfl,hown5,hb5⟩;go_wp2_with fail;go_ret;refine⟨g5,cap5,rfl,?_,hlow4.trans (hb5.mono hz4)⟩;rw[HPK.out];exact own_base2 hown5 hz4
theorem symbols_any(K N S T:Nat)(w:World):
 Calls Tryz.prog 70 #[.agg #[.int .i64 K,.int .i64 N,.int .i64 S,.int .i64 T]] w fun e w'=>e=.returned (.int .i64 T)/\Below w.heap.size w w':=by
 go_enter Tryz.func70,Tryz.ntmps70;go_wp2;go_ret;exact⟨rfl,(Below.refl _ _).alloc (Nat.le_refl _) _⟩
def Snd.at(s:Snd)(no ns:Nat):Snd:={s with no:=no,ns:=ns}
theorem SAt.next{w w':World}{B sb:Nat}{s:Snd}(h:SAt w B sb s)(no ns:Nat)(hb:But (fun b=>b=sb) w w')
 (hk:w'.heap[sb]?=some (.cells #[.int .i64 (s.K:Int),.int .i64 (s.N:Int),.int .i64 (s.S:Int),s.vo,.int .i64 no,.int .i64 ns] 116 (0,0))):SAt w' B sb (s.at no ns):=by
 have hne:∀ {B' n sz:Nat} {e:TypeId} {v:Value} {xs:List Value},w.ownsRow B' e sz v n xs->e≠116->∀ g,v.ownBlock=some g->¬ g=sb:=fun h' he g hg q=>own_ne h' hg (by rw[<- q]at h;exact h.blk) he (by rw[q])
 refine⟨h.low,hk,hb.own h.own (hne h.own (by decide)),fun i hi=>hb.own (h.bytes i hi) (hne (h.bytes i hi) (by decide)),fun i hi=>⟨(h.debts i hi).1,?_⟩,h.apart⟩;have hd:=(h.debts i hi).2;refine(hb.block _ (lt_of_block hd) (fun q=>?_)).trans hd;have hb2:=h.blk;rw[<- q]at hb2;rw[hd]at hb2;simp only[Option.some.injEq,Obj.cells.injEq]at hb2;exact absurd hb2.2.1 (by decide)
theorem SAt.set5{w:World}{B sb:Nat}{s:Snd}(h:SAt w B sb s)(x:Nat):SAt (w.setCell ⟨sb,5,none⟩ (.int .i64 x)) B sb (s.at s.no x)/\But (fun b=>b=sb) w (w.setCell ⟨sb,5,none⟩ (.int .i64 x)):=by
 have hb:=But.setCell (S:=fun b=>b=sb) (But.refl _ w) (p:=⟨sb,5,none⟩) (.inl rfl) (.int .i64 x);exact⟨h.next _ _ hb (heap_setCell_same w sb 5 _ _ _ h.blk),hb⟩
theorem SAt.set45{w:World}{B sb:Nat}{s:Snd}(h:SAt w B sb s)(x y:Nat):SAt ((w.setCell ⟨sb,4,none⟩ (.int .i64 x)).setCell ⟨sb,5,none⟩ (.int .i64 y)) B sb (s.at x y)/\But (fun b=>b=sb) w ((w.setCell ⟨sb,4,none⟩ (.int .i64 x)).setCell ⟨sb,5,none⟩ (.int .i64 y)):=by
 have hb:=But.setCell (S:=fun b=>b=sb) (But.refl _ w) (p:=⟨sb,4,none⟩) (.inl rfl) (.int .i64 x);have hb2:=But.setCell hb (p:=⟨sb,5,none⟩) (.inl rfl) (.int .i64 y);have h4:(w.setCell ⟨sb,4,none⟩ (.int .i64 x)).heap[sb]?=some (.cells #[.int .i64 (s.K:Int),.int .i64 (s.N:Int),.int .i64 (s.S:Int),s.vo,.int .i64 x,.int .i64 (s.ns:Int)] 116 (0,0)):=heap_setCell_same w sb 4 _ _ _ h.blk;exact⟨h.next _ _ hb2 (heap_setCell_same _ sb 5 _ _ _ h4),hb2⟩
theorem div_parts{K T x:Nat}(hk:1<=K)(hx:x<T):x/K<partsN T K:=by
 unfold partsN;have h1:T+K - 1=(T - 1)+K:=by omega
 rw[h1,Nat.add_div_right _ (by omega)];have h2:x/K<=(T - 1)/K:=Nat.div_le_div_right (by omega);omega
def Snd.step(s:Snd):Snd:=if s.ns+1=s.T s.no then s.at (s.no+1) 0 else s.at s.no (s.ns+1)
theorem sendSource_any{B sb:Nat}{s:Snd}{w:World}(h:SAt w B sb s)(ok:s.Ok)(hn:s.no<s.os.length):
 Calls Tryz.prog 42 #[.pointer (some ⟨sb,0,none⟩)] w fun e w'=>
  ∃ g cap,e=.returned (.slice (some ⟨g,0,none⟩) (6+s.S) cap)/\w'.ownsRow w.heap.size 5 1 (.slice (some ⟨g,0,none⟩) (6+s.S) cap) (6+s.S) (encL (s.pkt s.no (s.ns/s.K) (s.ns%s.K)))/\SAt w' B sb s.step/\But (fun b=>b=sb) w w':=by
 obtain⟨k1,k8,kn,n16,s1,s8⟩:=ok.cfg;have hsym:=ok.sym hn;have hfew:=ok.few;have hTr:=symN_range (S:=s.S) (len:=(oat s.os s.no).l.length) s1;have hlen:=ok.len s.no hn;have hT2:s.T s.no<=256:=by unfold Snd.T;omega
 obtain⟨_,_,_,_,c4,c5⟩:=h.cells;have f5:=h.frozen 5;obtain⟨qq,hqq⟩:∃ x:Nat,x=s.ns/s.K:=⟨_,rfl⟩;obtain⟨rr,hrr⟩:∃ x:Nat,x=s.ns%s.K:=⟨_,rfl⟩;have hdiv:(s.ns:Int)/(s.K:Int)=(qq:Int):=by rw[hqq];push_cast;rfl
 have hmod:(s.ns:Int)%(s.K:Int)=(rr:Int):=by rw[hrr];push_cast;rfl
 have hqX0:qq<partsN (s.T s.no) s.K:=by rw[hqq];exact div_parts k1 hsym
 have hrX0:rr<256:=by rw[hrr];exact Nat.lt_of_lt_of_le (Nat.mod_lt _ (by omega)) (by omega)
 have hK0:¬ s.K=0:=by omega
 have hwq:qq<=256->IntKind.i64.wrap (qq:Int)=(qq:Int):=fun h=>by rw[IntKind.wrap_i64];omega
 have hqb:qq<=256:=by have:=partsN_le (a:=s.T s.no) k1;omega
 replace hwq:=hwq hqb
 rw[<- hqq,<- hrr];have htd:(s.ns:Int).tdiv (s.K:Int)=(qq:Int):=by rw[Int.tdiv_eq_ediv_of_nonneg (by omega)];exact hdiv
 have htm:(s.ns:Int).tmod (s.K:Int)=(rr:Int):=by rw[Int.tmod_eq_emod_of_nonneg (by omega)];exact hmod
 clear hqq hrr;have hsbl:=lt_of_block h.blk;obtain⟨h0,hbu0⟩:=h.set5 (s.ns+1);rw[show((s.ns+1:Nat):Int)=(s.ns:Int)+1 by push_cast;rfl]at h0 hbu0;have hbA:=(Below.refl (w.setCell ⟨sb,5,none⟩ (.int .i64 ((s.ns:Int)+1))).heap.size _).alloc (Nat.le_refl _) (.cells #[.int .i64 (s.no:Int),.int .i64 (s.ns:Int)] 114);have hAn:=heap_alloc_new (w.setCell ⟨sb,5,none⟩ (.int .i64 ((s.ns:Int)+1))) (.cells #[.int .i64 (s.no:Int),.int .i64 (s.ns:Int)] 114);have h1:=h0.above hbA;have hbu1:=hbu0.alloc (.cells #[.int .i64 (s.no:Int),.int .i64 (s.ns:Int)] 114);have esz:(w.setCell ⟨sb,5,none⟩ (.int .i64 ((s.ns:Int)+1))).heap.size=w.heap.size:=by simp
 rw[esz]at hAn;go_enter Tryz.func42,Tryz.ntmps42;go_upto_region 3 with fail;clear hbA h0 hbu0 esz c4 c5 f5;generalize (w.setCell ⟨sb,5,none⟩ (.int .i64 ((s.ns:Int)+1))).alloc (.cells #[.int .i64 (s.no:Int),.int .i64 (s.ns:Int)] 114)=W at *;have ok1:(s.at s.no (s.ns+1)).Ok0:=⟨ok.cfg,ok.few,ok.len⟩;have hAl:=lt_of_block hAn;have x0:W.cell? ⟨w.heap.size,0,none⟩=some (.int .i64 (s.no:Int)):=cell_of_row W _ 0 _ _ _ hAn;have x1:W.cell? ⟨w.heap.size,1,none⟩=some (.int .i64 (s.ns:Int)):=cell_of_row W _ 1 _ _ _ hAn;have y5:W.cell? ⟨sb,5,none⟩=some (.int .i64 ((s.ns:Int)+1)):=by have:=h1.cells.2.2.2.2.2;rw[this];show some (Value.int .i64 ((s.ns+1:Nat):Int))=_;push_cast;rfl
 go_cut[27] (fun t wx=>t=.bool (decide (s.ns+1=s.T s.no))/\Below W.heap.size W wx)
 case first=>
  have hd:SAt W.drew B sb (s.at s.no (s.ns+1)):=h1.kept (fun _ _=>rfl)
  go_region_held3 (fun w'=>w'.cell? ⟨sb,5,none⟩=some (.int .i64 ((s.ns:Int)+1))/\w'.cell? ⟨w.heap.size,0,none⟩=some (.int .i64 (s.no:Int))) (first | go_keep|exact hk2|exact hk3) (first
   | (go_at_call 69;refine(plan_any hd ok1 hn).mono ?_;rintro e w1 ⟨rfl,hb1⟩;have hk2:w1.cell? ⟨sb,5,none⟩=some (.int .i64 ((s.ns:Int)+1))/\w1.cell? ⟨w.heap.size,0,none⟩=some (.int .i64 (s.no:Int)):=⟨by rw[hb1.cell (lt_of_cell y5)];exact y5,by rw[hb1.cell (lt_of_cell x0)];exact x0⟩)
   | (go_at_call 70;refine(symbols_any _ _ _ _ _).mono ?_;rintro e w2 ⟨rfl,hb2⟩;have hk3:w2.cell? ⟨sb,5,none⟩=some (.int .i64 ((s.ns:Int)+1))/\w2.cell? ⟨w.heap.size,0,none⟩=some (.int .i64 (s.no:Int)):=⟨by rw[hb2.cell (lt_of_cell hk2.1)];exact hk2.1,by rw[hb2.cell (lt_of_cell hk2.2)];exact hk2.2⟩))
  all_goals go_wp2_with fail
  all_goals go_meet
  all_goals refine⟨?_,(Below.undraw hb1).trans (hb2.mono hb1.size)⟩
  all_goals exact congrArg Value.bool (by rw[Bool.eq_iff_iff,beq_iff_eq,decide_eq_true_iff];show((s.ns:Int)+1=((s.T s.no:Nat):Int))↔_;omega)
 case rest=>
  obtain⟨rfl,hbx⟩:=hcut;have h2:=h1.above hbx;have hA2:=(hbx.block _ hAl).trans hAn;have hbu2:But (fun b=>b=sb) w wc:=hbu1.below hbx (fun k hk q=>absurd (Nat.lt_of_lt_of_le hk hbu1.size) q);have hsz2:=hbu2.size;have z0:wc.cell? ⟨w.heap.size,0,none⟩=some (.int .i64 (s.no:Int)):=cell_of_row wc _ 0 _ _ _ hA2;have z1:wc.cell? ⟨w.heap.size,1,none⟩=some (.int .i64 (s.ns:Int)):=cell_of_row wc _ 1 _ _ _ hA2;have hKne:¬(s.K:Int)=0:=by omega
  clear x0 x1 y5;by_cases hq:s.ns+1=s.T s.no
  ·rw[decide_eq_true hq]
   have f4:=h2.frozen 4;have f5:=h2.frozen 5;obtain⟨y0,_,_,_,y4,y5⟩:=h2.cells;obtain⟨h3,hbu3⟩:=h2.set45 (s.no+1) 0;rw[show((s.no+1:Nat):Int)=(s.no:Int)+1 by push_cast;rfl,show((0:Nat):Int)=0 from rfl]at h3 hbu3;go_upto_region 5 with fail;clear f4 f5 y0 y4 y5;generalize (wc.setCell ⟨sb,4,none⟩ (.int .i64 ((s.no:Int)+1))).setCell ⟨sb,5,none⟩ (.int .i64 0)=W3 at *;have hA3:=(hbu3.block _ (lt_of_block hA2) (by omega)).trans hA2;have r0:W3.cell? ⟨w.heap.size,0,none⟩=some (.int .i64 (s.no:Int)):=cell_of_row W3 _ 0 _ _ _ hA3;have r1:W3.cell? ⟨w.heap.size,1,none⟩=some (.int .i64 (s.ns:Int)):=cell_of_row W3 _ 1 _ _ _ hA3;have okX:((s.at s.no (s.ns+1)).at (s.no+1) 0).Ok0:=⟨ok.cfg,ok.few,ok.len⟩;have hqX:qq<((s.at s.no (s.ns+1)).at (s.no+1) 0).Q s.no:=hqX0;have hXd:SAt W3.drew B sb ((s.at s.no (s.ns+1)).at (s.no+1) 0):=h3.kept (fun _ _=>rfl);have HPK:Hid (((s.at s.no (s.ns+1)).at (s.no+1) 0).pkt s.no (qq) (rr)=s.pkt s.no (qq) (rr)):=rfl;obtain⟨p0,_⟩:=h3.cells;have p0':W3.cell? ⟨sb,0,none⟩=some (.int .i64 (s.K:Int)):=p0;clear p0
   go_region_held3 (fun w'=>w'.cell? ⟨w.heap.size,0,none⟩=some (.int .i64 (s.no:Int))/\w'.cell? ⟨w.heap.size,1,none⟩=some (.int .i64 (s.ns:Int))/\w'.cell? ⟨sb,0,none⟩=some (.int .i64 (s.K:Int))) (first | go_keep|exact hk9) (first
    | (go_at_call 71;refine(data_snd rr hXd okX hn hqX hrX0).mono ?_;rintro e w5 ⟨g5,cap5,rfl,hown5,hb5⟩;have hk9:w5.cell? ⟨w.heap.size,0,none⟩=some (.int .i64 (s.no:Int))/\w5.cell? ⟨w.heap.size,1,none⟩=some (.int .i64 (s.ns:Int))/\w5.cell? ⟨sb,0,none⟩=some (.int .i64 (s.K:Int)):=⟨by rw[hb5.cell (lt_of_cell r0)];exact r0,by rw[hb5.cell (lt_of_cell r1)];exact r1,by rw[hb5.cell (lt_of_cell p0')];exact p0'⟩))
   all_goals go_wp2_with fail
   all_goals go_ret
   have hbX:But (fun b=>b=sb) w W3:=hbu2.trans hbu3;have hszX:=hbX.size;refine⟨g5,cap5,rfl,?_,?_,hbX.below (Below.undraw hb5) (fun k hk q=>absurd (Nat.lt_of_lt_of_le hk hszX) q)⟩
   ·rw[<- HPK.out];exact own_base2 hown5 hszX
   ·have h6:=h3.above (Below.undraw hb5)
    unfold Snd.step;rw[if_pos hq];exact h6
  ·rw[decide_eq_false hq]
   go_upto_region 5 with fail;have r0:=z0;have r1:=z1;have okX:(s.at s.no (s.ns+1)).Ok0:=⟨ok.cfg,ok.few,ok.len⟩;have hqX:qq<(s.at s.no (s.ns+1)).Q s.no:=hqX0;have hXd:SAt wc.drew B sb (s.at s.no (s.ns+1)):=h2.kept (fun _ _=>rfl);have HPK:Hid ((s.at s.no (s.ns+1)).pkt s.no (qq) (rr)=s.pkt s.no (qq) (rr)):=rfl;obtain⟨p0,_⟩:=h2.cells;have p0':wc.cell? ⟨sb,0,none⟩=some (.int .i64 (s.K:Int)):=p0;clear p0
   go_region_held3 (fun w'=>w'.cell? ⟨w.heap.size,0,none⟩=some (.int .i64 (s.no:Int))/\w'.cell? ⟨w.heap.size,1,none⟩=some (.int .i64 (s.ns:Int))/\w'.cell? ⟨sb,0,none⟩=some (.int .i64 (s.K:Int))) (first | go_keep|exact hk9) (first
    | (go_at_call 71;refine(data_snd rr hXd okX hn hqX hrX0).mono ?_;rintro e w5 ⟨g5,cap5,rfl,hown5,hb5⟩;have hk9:w5.cell? ⟨w.heap.size,0,none⟩=some (.int .i64 (s.no:Int))/\w5.cell? ⟨w.heap.size,1,none⟩=some (.int .i64 (s.ns:Int))/\w5.cell? ⟨sb,0,none⟩=some (.int .i64 (s.K:Int)):=⟨by rw[hb5.cell (lt_of_cell r0)];exact r0,by rw[hb5.cell (lt_of_cell r1)];exact r1,by rw[hb5.cell (lt_of_cell p0')];exact p0'⟩))
   all_goals go_wp2_with fail
   all_goals go_ret
   have hbX:But (fun b=>b=sb) w wc:=hbu2;have hszX:=hbX.size;refine⟨g5,cap5,rfl,?_,?_,hbX.below (Below.undraw hb5) (fun k hk q=>absurd (Nat.lt_of_lt_of_le hk hszX) q)⟩
   ·rw[<- HPK.out];exact own_base2 hown5 hszX
   ·have h6:=h2.above (Below.undraw hb5)
    unfold Snd.step;rw[if_neg hq];exact h6
def Ob.setD(o:Ob)(q:Nat)(d:Nat×Nat):Ob:={o with ds:=o.ds.set q d}
def Snd.setD(s:Snd)(i q:Nat)(d:Nat×Nat):Snd:={s with os:=s.os.set i ((oat s.os i).setD q d)}
theorem oat_set{os:List Ob}{i j:Nat}{o:Ob}(hi:i<os.length):oat (os.set i o) j=if i=j then o else oat os j:=by
 unfold oat;rw[List.getD_eq_getElem?_getD,List.getElem?_set];by_cases e:i=j
 ·subst e
  rw[if_pos rfl,if_pos hi,if_pos rfl];rfl
 ·rw[if_neg e,if_neg e,List.getD_eq_getElem?_getD]
theorem Snd.setD_len(s:Snd)(i q:Nat)(d:Nat×Nat):(s.setD i q d).os.length=s.os.length:=by simp[Snd.setD]
theorem Snd.setD_at{s:Snd}{i:Nat}(hi:i<s.os.length)(q:Nat)(d:Nat×Nat)(j:Nat):oat (s.setD i q d).os j=if i=j then(oat s.os i).setD q d else oat s.os j:=oat_set hi
theorem Ob.setD_dv(o:Ob)(q:Nat)(d:Nat×Nat):(o.setD q d).dv=o.dv:=by simp[Ob.dv,Ob.setD]
theorem Snd.setD_l{s:Snd}{i:Nat}(hi:i<s.os.length)(q:Nat)(d:Nat×Nat)(j:Nat):(oat (s.setD i q d).os j).l=(oat s.os j).l:=by
 rw[s.setD_at hi];split
 ·rename_i e;subst e;rfl
 ·rfl
theorem Snd.setD_T{s:Snd}{i:Nat}(hi:i<s.os.length)(q:Nat)(d:Nat×Nat)(j:Nat):(s.setD i q d).T j=s.T j:=by
 unfold Snd.T;rw[s.setD_l hi];rfl
theorem Snd.setD_pkt{s:Snd}{i:Nat}(hi:i<s.os.length)(q:Nat)(d:Nat×Nat)(j r pl:Nat):(s.setD i q d).pkt j r pl=s.pkt j r pl:=by
 unfold Snd.pkt;rw[s.setD_l hi];rfl
theorem Snd.setD_vals{s:Snd}{i:Nat}(hi:i<s.os.length)(q:Nat)(d:Nat×Nat):objVals (s.setD i q d).os=objVals s.os:=by
 unfold objVals Snd.setD;rw[List.map_set];refine List.ext_getElem? (fun j=>?_);rw[List.getElem?_set];by_cases e:i=j
 ·subst e
  rw[if_pos rfl,List.length_map,if_pos hi,List.getElem?_map,oat_some hi];show _=some ((oat s.os i).bv,(oat s.os i).dv);rw[Ob.setD_dv];rfl
 ·rw[if_neg e]
theorem Snd.setD_ok0{s:Snd}(ok:s.Ok0){i:Nat}(hi:i<s.os.length)(q:Nat)(d:Nat×Nat):(s.setD i q d).Ok0:=
 ⟨ok.cfg,by rw[s.setD_len];exact ok.few,fun j hj=>by rw[s.setD_len]at hj;rw[s.setD_l hi];exact ok.len j hj⟩
theorem SAt.debtSet{w w':World}{B sb i:Nat}{s:Snd}(h:SAt w B sb s)(hi:i<s.os.length)(q:Nat)(d:Nat×Nat)(hb:But (fun b=>b=(oat s.os i).dg) w w')
 (hk:w'.heap[(oat s.os i).dg]?=some (.cells (flat2 (debtVals ((oat s.os i).ds.set q d))).toArray 125 (0,0))):SAt w' B sb (s.setD i q d):=by
 have hd:=(h.debts i hi).2;have hne:∀ {B' n sz:Nat} {e:TypeId} {v:Value} {xs:List Value},w.ownsRow B' e sz v n xs->e≠125->∀ g,v.ownBlock=some g->¬ g=(oat s.os i).dg:=fun h' he g hg e=>own_ne h' hg (by rw[<- e]at hd;exact hd) he rfl
 refine⟨h.low,?_,?_,fun j hj=>?_,fun j hj=>?_,fun j k hj hk' e=>?_⟩
 ·refine(hb.block sb (lt_of_block h.blk) (fun e=>?_)).trans h.blk
  have:=h.blk;rw[e,hd]at this;simp only[Option.some.injEq,Obj.cells.injEq]at this;exact absurd this.2.1 (by decide)
 ·rw[s.setD_len,s.setD_vals hi]
  exact hb.own h.own (hne h.own (by decide))
 ·rw[s.setD_len]at hj
  have h1:(oat (s.setD i q d).os j).bv=(oat s.os j).bv:=by
   rw[s.setD_at hi];split
   ·rename_i e;subst e;rfl
   ·rfl
  rw[h1,s.setD_l hi];exact hb.own (h.bytes j hj) (hne (h.bytes j hj) (by decide))
 ·rw[s.setD_len]at hj
  rw[s.setD_at hi];split
  ·rename_i e;subst e
   exact⟨(h.debts i hi).1,hk⟩
  ·rename_i e
   refine⟨(h.debts j hj).1,(hb.block _ (lt_of_block (h.debts j hj).2) (fun q'=>e (h.apart i j hi hj q'.symm))).trans (h.debts j hj).2⟩
 ·rw[s.setD_len]at hj hk'
  have key:∀ m,(oat (s.setD i q d).os m).dg=(oat s.os m).dg:=fun m=>by
   rw[s.setD_at hi];split
   ·rename_i e;subst e;rfl
   ·rfl
  rw[key,key]at e;exact h.apart j k hj hk' e
theorem debtVals_set(ds:List (Nat×Nat))(q:Nat)(d:Nat×Nat):debtVals (ds.set q d)=(debtVals ds).set q (.int .i64 (d.1:Int),.int .i64 (d.2:Int)):=by simp[debtVals,List.map_set]
theorem debtVals_some{ds:List (Nat×Nat)}{q:Nat}(hq:q<ds.length):(debtVals ds)[q]?=some (.int .i64 ((dat ds q).1:Int),.int .i64 ((dat ds q).2:Int)):=by
 rw[debtVals,List.getElem?_map,dat_some hq];rfl
theorem SAt.owed{w:World}{B sb i q:Nat}{s:Snd}(h:SAt w B sb s)(hi:i<s.os.length)(hq:q<(oat s.os i).ds.length)(x:Nat):
 SAt (w.setCell ⟨(oat s.os i).dg,q*2,none⟩ (.int .i64 x)) B sb (s.setD i q (x,(dat (oat s.os i).ds q).2))/\But (fun b=>b=(oat s.os i).dg) w (w.setCell ⟨(oat s.os i).dg,q*2,none⟩ (.int .i64 x)):=by
 have hb:=But.setCell (S:=fun b=>b=(oat s.os i).dg) (But.refl _ w) (p:=⟨(oat s.os i).dg,q*2,none⟩) (.inl rfl) (.int .i64 x);refine⟨h.debtSet hi q _ hb ?_,hb⟩;rw[heap_setCell_same w _ (q*2) _ _ _ (h.debts i hi).2,List.setIfInBounds_toArray,Nat.mul_comm q 2,flat2_set0 _ _ _ _ (debtVals_some hq),debtVals_set]
theorem SAt.turn{w:World}{B sb i q:Nat}{s:Snd}(h:SAt w B sb s)(hi:i<s.os.length)(hq:q<(oat s.os i).ds.length)(x:Nat):
 SAt (w.setCell ⟨(oat s.os i).dg,q*2+1,none⟩ (.int .i64 x)) B sb (s.setD i q ((dat (oat s.os i).ds q).1,x))/\But (fun b=>b=(oat s.os i).dg) w (w.setCell ⟨(oat s.os i).dg,q*2+1,none⟩ (.int .i64 x)):=by
 have hb:=But.setCell (S:=fun b=>b=(oat s.os i).dg) (But.refl _ w) (p:=⟨(oat s.os i).dg,q*2+1,none⟩) (.inl rfl) (.int .i64 x);refine⟨h.debtSet hi q _ hb ?_,hb⟩;rw[heap_setCell_same w _ (q*2+1) _ _ _ (h.debts i hi).2,List.setIfInBounds_toArray,Nat.mul_comm q 2,flat2_set1 _ _ _ _ (debtVals_some hq),debtVals_set]
theorem setD_setD{s:Snd}{i q:Nat}(hi:i<s.os.length)(d d':Nat×Nat):(s.setD i q d).setD i q d'=s.setD i q d':=by
 have h1:oat (s.setD i q d).os i=(oat s.os i).setD q d:=by rw[s.setD_at hi,if_pos rfl]
 show {s.setD i q d with os:=(s.setD i q d).os.set i ((oat (s.setD i q d).os i).setD q d')}=_;rw[h1];simp[Snd.setD,Ob.setD]
theorem dat_setD{s:Snd}{i q:Nat}(hi:i<s.os.length)(hq:q<(oat s.os i).ds.length)(d:Nat×Nat):dat (oat (s.setD i q d).os i).ds q=d:=by
 rw[s.setD_at hi,if_pos rfl];simp[dat,Ob.setD,List.getD,hq]
theorem len_setD{s:Snd}{i q:Nat}(hi:i<s.os.length)(d:Nat×Nat):(oat (s.setD i q d).os i).ds.length=(oat s.os i).ds.length:=by
 rw[s.setD_at hi,if_pos rfl];simp[Ob.setD]
theorem dg_setD{s:Snd}{i q:Nat}(hi:i<s.os.length)(d:Nat×Nat):(oat (s.setD i q d).os i).dg=(oat s.os i).dg:=by
 rw[s.setD_at hi,if_pos rfl];rfl
def Snd.pay(s:Snd)(i q:Nat):Snd:=s.setD i q ((dat (oat s.os i).ds q).1 - 1,((dat (oat s.os i).ds q).2+1)%s.R i q)
def Snd.owedPkt(s:Snd)(i q:Nat):List Gf.F:=s.pkt i q (plcAt s.K s.N (dat (oat s.os i).ds q).2)
theorem SAt.frozenD{w:World}{B sb i:Nat}{s:Snd}(h:SAt w B sb s)(hi:i<s.os.length)(j:Nat):w.frozen? ⟨(oat s.os i).dg,j,none⟩=false:=frozen_of_row w _ j _ _ (h.debts i hi).2
theorem sendOwed_any{B sb i q:Nat}{s:Snd}{w:World}(h:SAt w B sb s)(ok:s.Ok)(hi:i<s.os.length)(hq:q<s.Q i)(ho:1<=(dat (oat s.os i).ds q).1):
 Calls Tryz.prog 43 #[.pointer (some ⟨sb,0,none⟩),.int .i64 i,.int .i64 q] w fun e w'=>
  ∃ g cap,e=.returned (.slice (some ⟨g,0,none⟩) (6+s.S) cap)/\w'.ownsRow w.heap.size 5 1 (.slice (some ⟨g,0,none⟩) (6+s.S) cap) (6+s.S) (encL (s.owedPkt i q))/\SAt w' B sb (s.pay i q)/\But (fun b=>b=(oat s.os i).dg) w w':=by
 obtain⟨k1,k8,kn,n16,s1,s8⟩:=ok.cfg;have hfew:=ok.few;have hlen:=ok.len i hi;have hTr:=symN_range (S:=s.S) (len:=(oat s.os i).l.length) s1;have hT2:s.T i<=256:=by unfold Snd.T;omega
 have hQl:=partsN_le (a:=s.T i) k1;have hqK:q*s.K<s.T i:=partsN_mul k1 hq;have hbl:=ok.blocks i hi;have hqd:q<(oat s.os i).ds.length:=by rw[hbl];exact hq
 have hq2:q<256:=by unfold Snd.Q at hq;omega
 obtain⟨hdo,hdt⟩:=ok.debt i q hi hq;have hm8:srcN s.K (s.T i) q<=8:=by unfold srcN;omega
 have hm1:1<=srcN s.K (s.T i) q:=by unfold srcN;omega
 have hRe:s.R i q=(s.N - s.K)+srcN s.K (s.T i) q:=rfl;obtain⟨o,hoe⟩:∃ x,x=(dat (oat s.os i).ds q).1:=⟨_,rfl⟩;obtain⟨t,hte⟩:∃ x,x=(dat (oat s.os i).ds q).2:=⟨_,rfl⟩;obtain⟨dg,hdg⟩:∃ x,x=(oat s.os i).dg:=⟨_,rfl⟩;obtain⟨n,hne⟩:∃ x,x=(oat s.os i).ds.length:=⟨_,rfl⟩;have HPAY:Hid (s.pay i q=s.setD i q (o - 1,(t+1)%s.R i q)):=by show _=_;rw[hoe,hte];rfl
 have HPKT:Hid (s.owedPkt i q=s.pkt i q (plcAt s.K s.N t)):=by show _=_;rw[hte];rfl
 have hpl:plcAt s.K s.N t<256:=by unfold plcAt;split<;>omega
 obtain⟨_,_,_,c3,_,_⟩:=h.cells;obtain⟨g,cp,hv,hcp,hl⟩:=h.list (by omega);obtain⟨_,t1⟩:=hl i hi;obtain⟨d0,d1⟩:=h.debt hi hqd;unfold Ob.dv at t1;rw[hv]at c3;rw[<- hdg,<- hne]at t1;rw[<- hdg,<- hoe]at d0;rw[<- hdg,<- hte]at d1;have hplc:=placeAt_any t (by omega) h ok.toOk0;rw[<- hoe]at ho hdo;rw[<- hne]at hqd;rw[<- hte]at hdt;have hlt1:(0:Int)<=(i:Int):=by omega
 have hlt2:(i:Int)<(s.os.length:Int):=by omega
 have hlt3:(0:Int)<=(q:Int):=by omega
 have hlt4:(q:Int)<(n:Int):=by omega
 have hn2:n<=256:=by rw[hne,hbl];unfold Snd.Q;omega
 have HDG:Hid (dg=(oat s.os i).dg):=hdg;have HNE:Hid (n=(oat s.os i).ds.length):=hne;have HTE:Hid (t=(dat (oat s.os i).ds q).2):=hte;have HRE:Hid (s.R i q=(s.N - s.K)+srcN s.K (s.T i) q):=hRe;clear hl hv hdg hne hoe hte hbl hRe;go_enter Tryz.func43,Tryz.ntmps43;go_wp2_with fail;refine hplc.mono ?_;rintro e w1 ⟨rfl,hb1⟩;have h1:=h.above hb1;have e0:w1.cell? ⟨dg,q*2,none⟩=some (.int .i64 o):=by rw[hb1.cell (lt_of_cell d0)];exact d0
 have fz0:w1.frozen? ⟨dg,q*2,none⟩=false:=by rw[HDG.out];exact h1.frozenD hi _
 obtain⟨h2,hbu2⟩:=h1.owed hi (by rw[<- HNE.out];exact hqd) (o - 1);rw[<- HDG.out,<- HTE.out,show((o - 1:Nat):Int)=(o:Int) - 1 by omega]at h2;rw[<- HDG.out,show((o - 1:Nat):Int)=(o:Int) - 1 by omega]at hbu2;clear c3 t1 d0 d1 hplc;go_upto_region 4 with fail;generalize w1.setCell ⟨dg,q*2,none⟩ (.int .i64 ((o:Int) - 1))=W2 at *;have hi2:i<(s.setD i q (o - 1,t)).os.length:=by rw[s.setD_len];exact hi
 have ok2:(s.setD i q (o - 1,t)).Ok0:=s.setD_ok0 ok.toOk0 hi q _;obtain⟨r,hr⟩:∃ x,x=s.N - s.K:=⟨_,rfl⟩;obtain⟨m,hm⟩:∃ x,x=srcN s.K (s.T i) q:=⟨_,rfl⟩;have HREP:Hid (∀ W,SAt W B sb (s.setD i q (o - 1,t))->Calls Tryz.prog 73 #[.pointer (some ⟨sb,0,none⟩)] W fun e w'=>e=.returned (.int .i64 r)/\Below W.heap.size W w'):=fun W hW=>by rw[hr];have:=repairs_any hW ok2;exact this
 have HPLN:Hid (∀ W,SAt W B sb (s.setD i q (o - 1,t))->Calls Tryz.prog 69 #[.pointer (some ⟨sb,0,none⟩),.int .i64 i] W fun e w'=>e=.returned (.agg #[.int .i64 (s.K:Int),.int .i64 (s.N:Int),.int .i64 (s.S:Int),.int .i64 (s.T i:Int)])/\Below W.heap.size W w'):=fun W hW=>by
  have:=plan_any hW ok2 hi2;rw[s.setD_T hi]at this;exact this
 have HSRC:Hid (∀ W,Calls Tryz.prog 74 #[.agg #[.int .i64 (s.K:Int),.int .i64 (s.N:Int),.int .i64 (s.S:Int),.int .i64 (s.T i:Int)],.int .i64 q] W fun e w'=>e=.returned (.int .i64 m)/\Below W.heap.size W w'):=fun W=>by rw[hm];exact sources_any s.K s.N s.S (s.T i) q (by omega) hqK W
 have HTC:Hid (∀ W,SAt W B sb (s.setD i q (o - 1,t))->W.cell? ⟨dg,q*2+1,none⟩=some (.int .i64 t)/\W.frozen? ⟨dg,q*2+1,none⟩=false):=fun W hW=>by
  have h5:=(hW.debt hi2 (q:=q) (by rw[len_setD hi,<- HNE.out];exact hqd)).2;have h6:=hW.frozenD hi2 (q*2+1);rw[dg_setD hi,<- HDG.out,dat_setD hi (by rw[<- HNE.out];exact hqd)]at h5;rw[dg_setD hi,<- HDG.out]at h6;exact⟨h5,h6⟩
 obtain⟨t',ht'⟩:∃ x,x=(t+1)%(r+m):=⟨_,rfl⟩;have hrm:((t:Int)+1)%((r:Int)+(m:Int))=(t':Int):=by rw[ht'];push_cast;rfl
 have htm:((t:Int)+1).tmod ((r:Int)+(m:Int))=(t':Int):=by rw[Int.tmod_eq_emod_of_nonneg (by omega)];exact hrm
 have hRm:s.R i q=r+m:=by rw[HRE.out,hr,hm]
 have hr16:r<=16:=by omega
 rw[<- hm]at hm8 hm1;have ht2:t'<1000:=by rw[ht'];exact Nat.lt_of_lt_of_le (Nat.mod_lt _ (by omega)) (by omega)
 have ht3:t<=1000:=by omega
 have hne0:¬(r:Int)+(m:Int)=0:=by omega
 have hm0:¬ m=0:=by omega
 have hw1:IntKind.i64.wrap ((t:Int)+1)=(t:Int)+1:=by rw[IntKind.wrap_i64];omega
 have hw2:IntKind.i64.wrap ((r:Int)+(m:Int))=(r:Int)+(m:Int):=by rw[IntKind.wrap_i64];omega
 have hwt:IntKind.i64.wrap (t':Int)=(t':Int):=by rw[IntKind.wrap_i64];omega
 have HT':Hid ((t+1)%s.R i q=t'):=by show _=_;rw[hRm,ht']
 clear hr hm ht' hRm hTr hQl hqK;have hd:SAt W2.drew B sb (s.setD i q (o - 1,t)):=h2.kept (fun _ _=>rfl);have hTd:=HTC.out _ h2;obtain⟨tW,fW⟩:=hTd
 have FIN:Hid (∀ W,SAt W B sb (s.setD i q (o - 1,t))->Below W2.heap.size W2 W->SAt (W.setCell ⟨dg,q*2+1,none⟩ (.int .i64 (t':Int))) B sb (s.setD i q (o - 1,t'))/\But (fun b=>b=dg) W2 (W.setCell ⟨dg,q*2+1,none⟩ (.int .i64 (t':Int)))):=fun W hW hb=>by
  have h7:=hW.turn hi2 (q:=q) (by rw[len_setD hi,<- HNE.out];exact hqd) t';rw[dg_setD hi,<- HDG.out,dat_setD hi (by rw[<- HNE.out];exact hqd),setD_setD hi]at h7;exact⟨h7.1,(Below.but hb (fun b=>b=dg) (fun k hk hq'=>absurd hk hq')).trans h7.2⟩
 go_cut[] (fun wx=>SAt wx B sb (s.setD i q (o - 1,t'))/\But (fun b=>b=dg) W2 wx)
 case first=>
  go_region_with (first
   | (go_at_call 73;refine(HREP.out _ ?hq).mono ?_;(case hq=>first | with_reducible exact hd|with_reducible exact hS|with_reducible exact hP);rintro e wR ⟨rfl,hbR⟩;(have hR:SAt wR B sb (s.setD i q (o - 1,t)):=by first | exact hd.above hbR|exact hS.above hbR|exact hP.above hbR);(have hWR:Below W2.heap.size W2 wR:=by first | exact Below.undraw hbR|exact hWS.trans (hbR.mono hWS.size)|exact hWP.trans (hbR.mono hWP.size));obtain⟨tR,fR⟩:=HTC.out _ hR)
   | (go_at_call 69;refine(HPLN.out _ ?hq).mono ?_;(case hq=>first | with_reducible exact hd|with_reducible exact hR);rintro e wP ⟨rfl,hbP⟩;(have hP:SAt wP B sb (s.setD i q (o - 1,t)):=by first | exact hd.above hbP|exact hR.above hbP);(have hWP:Below W2.heap.size W2 wP:=by first | exact Below.undraw hbP|exact hWR.trans (hbP.mono hWR.size));obtain⟨tP,fP⟩:=HTC.out _ hP)
   | (go_at_call 74;refine(HSRC.out _).mono ?_;rintro e wS ⟨rfl,hbS⟩;(have hS:SAt wS B sb (s.setD i q (o - 1,t)):=by first | exact hP.above hbS|exact hR.above hbS);(have hWS:Below W2.heap.size W2 wS:=by first | exact hWP.trans (hbS.mono hWP.size)|exact hWR.trans (hbS.mono hWR.size));obtain⟨tS,fS⟩:=HTC.out _ hS))
  all_goals go_wp2_with fail
  all_goals go_meet
  all_goals first | exact FIN.out _ hS hWS|exact FIN.out _ hR hWR
 case rest=>
  obtain⟨h4,hb4⟩:=hcut;have ok4:(s.setD i q (o - 1,t')).Ok0:=s.setD_ok0 ok.toOk0 hi q _;have hi4:i<(s.setD i q (o - 1,t')).os.length:=by rw[s.setD_len];exact hi
  have hq4:q<(s.setD i q (o - 1,t')).Q i:=by unfold Snd.Q;rw[s.setD_T hi];exact hq
  go_wp2_with fail;refine(data_snd (plcAt s.K s.N t) h4 ok4 hi4 hq4 hpl).mono ?_;rintro e w5 ⟨g5,cap5,rfl,hown5,hb5⟩;go_wp2_with fail;go_ret;have hbw:But (fun b=>b=dg) w wc:=((Below.but hb1 (fun b=>b=dg) (fun k hk hq'=>absurd hk hq')).trans hbu2).trans hb4;have hsz:=hbw.size;refine⟨g5,cap5,rfl,?_,?_,?_⟩
  ·rw[HPKT.out,<- s.setD_pkt hi q (o - 1,t')]
   exact own_base2 hown5 hsz
  ·rw[HPAY.out,HT'.out]
   exact h4.above hb5
  ·rw[<- HDG.out]
   exact hbw.below hb5 (fun k hk hq'=>absurd (Nat.lt_of_lt_of_le hk hsz) hq')
def Snd.owes(s:Snd)(i q:Nat):Prop:=i<s.os.length/\q<s.Q i/\1<=(dat (oat s.os i).ds q).1
def NextIs(s:Snd)(l:List Gf.F)(s':Snd):Prop:=
 (s.no<s.os.length/\l=s.pkt s.no (s.ns/s.K) (s.ns%s.K)/\s'=s.step)∨
 (s.no=s.os.length/\∃ i q,s.owes i q/\(∀ j r,(j<i∨j=i/\r<q)->¬ s.owes j r)/\l=s.owedPkt i q/\s'=s.pay i q)
theorem NextIs.source{s:Snd}(h:s.no<s.os.length):NextIs s (s.pkt s.no (s.ns/s.K) (s.ns%s.K)) s.step:=Or.inl ⟨h,rfl,rfl⟩
theorem NextIs.owed{s:Snd}(h:s.no=s.os.length)(i q:Nat)(ho:s.owes i q)(hf:∀ j r,(j<i∨j=i/\r<q)->¬ s.owes j r):NextIs s (s.owedPkt i q) (s.pay i q):=Or.inr ⟨h,i,q,ho,hf,rfl,rfl⟩
def NextGives(s:Snd)(B sb:Nat)(w:World)(e:Ending)(w':World):Prop:=
 (∃ g cap l s',e=.returned (.tuple #[.slice (some ⟨g,0,none⟩) (6+s.S) cap,.bool true])/\w'.ownsRow w.heap.size 5 1 (.slice (some ⟨g,0,none⟩) (6+s.S) cap) (6+s.S) (encL l)/\NextIs s l s'/\SAt w' B sb s'/\But (s.foot sb) w w')∨
 (e=.returned (.tuple #[.slice none 0 0,.bool false])/\s.no=s.os.length/\(∀ i q,¬ s.owes i q)/\Below w.heap.size w w')
theorem next_any{B sb:Nat}{s:Snd}{w:World}(h:SAt w B sb s)(ok:s.Ok):
 Calls Tryz.prog 19 #[.pointer (some ⟨sb,0,none⟩)] w (NextGives s B sb w):=by
 obtain⟨_,_,_,c3,c4,_⟩:=h.cells;have hfew:=ok.few;have hnx:=ok.next;obtain⟨va,vc,hvo,_⟩:=own_form2 h.own;by_cases hq:s.no<s.os.length
 ·have hq1:(s.no:Int)<(s.os.length:Int):=by omega
  rw[hvo]at c3;have HSS:=fun nq=>sendSource_any (w:=w.drewN nq) (h.kept (fun _ _=>rfl)) ok hq
  have HSS':Hid (∀ nq,Calls Tryz.prog 42 #[.pointer (some ⟨sb,0,none⟩)] (w.drewN nq) _):=HSS;clear HSS;go_enter Tryz.func19,Tryz.ntmps19;go_wp2_with fail
  go_quiet (fail)
  go_wp2_with fail;refine Calls.mono (HSS'.out _) ?_;rintro e w1 ⟨g,cap,rfl,hown,h1,hb⟩;go_wp2_with fail;go_ret2;have hb2:But (s.foot sb) w w1:=(show But (s.foot sb) w (w.drewN _) from ⟨rfl,rfl,rfl,Nat.le_refl _,fun _ _ _=>rfl⟩).trans (hb.wide (fun k _ q=>.inl q));exact .inl ⟨g,cap,_,_,rfl,hown,.source hq,h1,hb2⟩
 ·have hq1:¬(s.no:Int)<(s.os.length:Int):=by omega
  have hno:s.no=s.os.length:=by omega
  rw[hvo]at c3;have HC3:Hid (∀ W,Below w.heap.size w W->W.cell? ⟨sb,3,none⟩=some (.slice va s.os.length vc)):=fun W hW=>by rw[hW.cell (lt_of_cell c3)];exact c3
  have c3n:=fun nq=>HC3.out (w.drewN nq) ⟨rfl,rfl,rfl,Nat.le_refl _,fun _ _=>rfl⟩
  go_enter Tryz.func19,Tryz.ntmps19;go_wp2_with fail
  go_quiet (fail)
  go_wp2_with fail;clear c3 c4 c3n
  go_loopw[26] (fun t wr=>∃ a:Nat,a<=s.os.length/\t=.int .i64 a/\Below w.heap.size w wr/\Hid (∀ j r,j<a->¬ s.owes j r)) (fun t _=>s.os.length - (intOf t).toNat)
  case atStart=>exact⟨0,by omega,rfl,below_drew rfl,fun j r hj=>by omega⟩
  case round=>
   obtain⟨a,hale,rfl,hbr,hno1⟩:=hrel;by_cases hlt:a<s.os.length
   ·have hr:=h.above hbr
    obtain⟨g,cp,hv,hcp,hl⟩:=hr.list (by omega);obtain⟨t0,t1⟩:=hl a hlt;have hbl:=ok.blocks a hlt;have hlen:=ok.len a hlt;obtain⟨k1,k8,kn,n16,s1,s8⟩:=ok.cfg;have hTr:=symN_range (S:=s.S) (len:=(oat s.os a).l.length) s1;have hT2:s.T a<=256:=by unfold Snd.T;omega
    have hQl:=partsN_le (a:=s.T a) k1;obtain⟨n,hn⟩:∃ x,x=(oat s.os a).ds.length:=⟨_,rfl⟩;have hn2:n<=256:=by rw[hn,hbl];unfold Snd.Q;omega
    obtain⟨dg,hdg⟩:∃ x,x=(oat s.os a).dg:=⟨_,rfl⟩;have HQ:Hid (s.Q a=n):=by show _=_;rw[hn,hbl]
    have hvv:Value.slice va s.os.length vc=.slice (some ⟨g,0,none⟩) s.os.length cp:=hvo.symm.trans hv;simp only[Value.slice.injEq]at hvv;obtain⟨rfl,_,rfl⟩:=hvv;unfold Ob.bv at t0;unfold Ob.dv at t1;rw[<- hdg,<- hn]at t1
    have HD:Hid (∀ W r,SAt W B sb s->r<n->W.cell? ⟨dg,r*2,none⟩=some (.int .i64 ((dat (oat s.os a).ds r).1:Int))/\W.cell? ⟨dg,r*2+1,none⟩=some (.int .i64 ((dat (oat s.os a).ds r).2:Int))):=fun W r hW hrn=>by
     have:=hW.debt hlt (q:=r) (by rw[<- hn];exact hrn);rw[<- hdg]at this;exact this
    have HDE:Hid (∀ r,r<n->(dat (oat s.os a).ds r).1<=8/\(dat (oat s.os a).ds r).2<=1000):=fun r hrn=>by
     have h9:=ok.debt a r hlt (by rw[HQ.out];exact hrn);have h8:s.R a r<=24:=by unfold Snd.R srcN;omega
     exact⟨h9.1,by omega⟩
    clear hl hv hbl hn hdg hTr hQl;obtain⟨wB,hwB⟩:∃ x,x=wr:=⟨wr,rfl⟩;subst hwB;go_wp2_with fail;have hb5:Below w.heap.size w (wB.alloc (.cells #[.slice (oat s.os a).a (oat s.os a).l.length (oat s.os a).c,.slice (some ⟨dg,0,none⟩) n n] 120)):=hbr.alloc hbr.size _;generalize wB.alloc (.cells #[.slice (oat s.os a).a (oat s.os a).l.length (oat s.os a).c,.slice (some ⟨dg,0,none⟩) n n] 120)=W5 at *;clear t0 t1 hr hbr
    go_loopw[34] (fun t wq=>∃ b:Nat,b<=n/\t=.int .i64 b/\Below w.heap.size w wq/\Hid (∀ r,r<b->¬ s.owes a r)) (fun t _=>n - (intOf t).toNat)
    case atStart=>exact⟨0,by omega,rfl,hb5,fun r hr=>by omega⟩
    case round=>
     obtain⟨b,hble,rfl,hbq,hno2⟩:=hrel;by_cases hltb:b<n
     ·have hq':=h.above hbq
      obtain⟨e0,e1⟩:=HD.out wr b hq' hltb;obtain⟨hd8,hd9⟩:=HDE.out b hltb;have hqq:b<s.Q a:=by rw[HQ.out];exact hltb
      by_cases how:1<=(dat (oat s.os a).ds b).1
      ·have how1:(0:Int)<((dat (oat s.os a).ds b).1:Int):=by omega
       have hb6:Below wr.heap.size wr (wr.alloc (.cells #[.int .i64 ((dat (oat s.os a).ds b).1:Int),.int .i64 ((dat (oat s.os a).ds b).2:Int)] 125)):=(Below.refl _ _).alloc (Nat.le_refl _) _;have h6:=hq'.above hb6;go_wp2_with fail;refine(sendOwed_any h6 ok hlt hqq how).mono ?_;rintro e w7 ⟨g7,cap7,rfl,hown7,h7,hb7⟩;have hb8:Below w.heap.size w (wr.alloc (.cells #[.int .i64 ((dat (oat s.os a).ds b).1:Int),.int .i64 ((dat (oat s.os a).ds b).2:Int)] 125)):=hbq.trans (hb6.mono hbq.size);have hb9:But (s.foot sb) w w7:=(Below.but hb8 (s.foot sb) (fun k hk q=>absurd hk q)).trans (hb7.wide (fun k _ q=>.inr (.inr ⟨a,hlt,.inl q⟩)));go_wp2_with fail;go_ret2;refine .inl ⟨g7,cap7,_,_,rfl,own_base2 hown7 hb8.size,.owed hno a b ⟨hlt,hqq,how⟩ (fun j r hjr=>?_),h7,hb9⟩;rcases hjr with hj|⟨rfl,hr⟩
       ·exact hno1.out j r hj
       ·exact hno2.out r hr
      ·have how1:¬(0:Int)<((dat (oat s.os a).ds b).1:Int):=by omega
       have hb6:Below w.heap.size w (wr.alloc (.cells #[.int .i64 ((dat (oat s.os a).ds b).1:Int),.int .i64 ((dat (oat s.os a).ds b).2:Int)] 125)):=hbq.alloc hbq.size _;go_wp2_with fail
       go_roundw
       case rel=>exact⟨b+1,by omega,by go_num,hb6,fun r hr=>by
        by_cases e:r=b
        ·subst e;exact fun ho=>how ho.2.2
        ·exact hno2.out r (by omega)⟩
       case measure=>simp[intOf];omega
     ·obtain rfl:b=n:=by omega
      go_wp2_with fail
      go_roundw
      case rel=>exact⟨a+1,by omega,by go_num,hbq,fun j r hj=>by
       by_cases e:j=a
       ·subst e;exact fun ho=>hno2.out r (by rw[<- HQ.out];exact ho.2.1) ho
       ·exact hno1.out j r (by omega)⟩
      case measure=>simp[intOf];omega
   ·obtain rfl:a=s.os.length:=by omega
    go_wp2_with fail;go_ret2;exact .inr ⟨rfl,hno,fun i q ho=>hno1.out i q ho.1 ho,hbr⟩
theorem headE_some{l:List Gf.F}{c k:Nat}(h:headE l=some (c,k)):∃ i,i<8/\c=i+1:=by
 unfold headE at h;split at h
 ·cases h;exact⟨3,by omega,rfl⟩
 split at h
 ·cases h;exact⟨4,by omega,rfl⟩
 split at h
 ·cases h;exact⟨3,by omega,rfl⟩
 split at h
 ·cases h;exact⟨5,by omega,rfl⟩
 split at h
 ·cases h;exact⟨3,by omega,rfl⟩
 split at h
 ·cases h;exact⟨5,by omega,rfl⟩
 ·cases h
theorem dataB_code{K N S T c k:Nat}{m:List Gf.F}(h:dataB K N S T m=some (c,k)):∃ i,i<8/\c=i+1:=by
 unfold dataB at h;split at h
 ·cases h;exact⟨3,by omega,rfl⟩
 split at h
 ·cases h;exact⟨5,by omega,rfl⟩
 split at h
 ·cases h;exact⟨3,by omega,rfl⟩
 split at h
 ·cases h;exact⟨5,by omega,rfl⟩
 split at h
 ·cases h;exact⟨3,by omega,rfl⟩
 split at h
 ·cases h;exact⟨6,by omega,rfl⟩
 ·cases h
theorem lackB_code{K T c p k least:Nat}{m:List Gf.F}(h:lackB K T m k least=some (c,p)):∃ i,i<8/\c=i+1:=by
 unfold lackB at h;split at h
 ·cases h;exact⟨3,by omega,rfl⟩
 split at h
 ·cases h;exact⟨5,by omega,rfl⟩
 split at h
 ·cases h;exact⟨3,by omega,rfl⟩
 split at h
 ·cases h;exact⟨5,by omega,rfl⟩
 ·cases h
theorem asksFrom_code{K T c p:Nat}{m:List Gf.F}:∀ {r i least:Nat},asksFrom K T m r i least=some (c,p)->∃ i,i<8/\c=i+1
 | 0,i,_,h=>by
  unfold asksFrom at h;split at h
  ·cases h;exact⟨6,by omega,rfl⟩
  ·cases h
 | r+1,i,least,h=>by
  unfold asksFrom at h
  cases hl:lackB K T m (1+2*i) least with
  | some e=>rw[hl]at h;cases h;exact lackB_code hl
  | none=>rw[hl]at h;exact asksFrom_code h
theorem parseE_code{K N S c k:Nat}{l:List Gf.F}(h:parseE K N S l=some (c,k)):∃ i,i<8/\c=i+1:=by
 unfold parseE at h
 cases hh:headE l with
 | some e=>rw[hh]at h;cases h;exact headE_some hh
 | none=>
  rw[hh]at h;simp only[Option.map_eq_some_iff]at h;obtain⟨⟨c',k'⟩,h1,h2⟩:=h;simp only[Prod.mk.injEq]at h2;obtain⟨rfl,_⟩:=h2;split at h1
  ·exact dataB_code h1
  ·unfold asksB at h1
   split at h1
   ·cases h1;exact⟨3,by omega,rfl⟩
   split at h1
   ·cases h1;exact⟨5,by omega,rfl⟩
   ·exact asksFrom_code h1
end Go.Proofs.YtjabhnhejbhgjaaGreatDoor
