import Derived.Test.YtjabhnhejbhgjaaGreatDoorMany2
import Derived.ProofKit
import Derived.LaidMore
import Derived.OpenShut
import Derived.LaidLaws
import Derived.Stop.Joined
set_option maxRecDepth 100000
set_option maxHeartbeats 8000000
namespace Go.Proofs.YtjabhnhejbhgjaaGreatDoor
open Go.ChangeShapes Go.WideShapes Go.ChangeAt Go.RowKit
theorem Tryz.cellsErr:Tryz.prog.cellsOf 290=1:=by kernel_rfl
theorem Tryz.cellsStr:Tryz.prog.cellsOf 9=1:=by kernel_rfl
theorem Tryz.star: "*" ++ "errors.errorString"= "*errors.errorString":=by decide
theorem Tryz.errNamed(u:TypeId)(h:Tryz.prog.typeName? 3 u=some "*errors.errorString"):u=269:=
 typeName_ptr_named (nm:= "errors.errorString") (by rw[Tryz.star];kernel_rfl) (by kernel_rfl) (by decide) u (by rw[Tryz.star];exact h)
theorem laid_head{W:World}{n:String}{text:List UInt8}{r:List (String×DataW Unit)}{ps:List MemPlace}{g:Nat}
 (h:DataW.LaidVars Tryz.prog W ((n,.iface "*errors.errorString" (.ptr (.agg [.lit (.string text)]))) :: r) ps)
 (hrows:∀ b off,MemPlace.cell b off ∈ ps->(∃ c t,W.heap[b]?=some (.cells c t (0,0)))/\∀ u v,W.cell? ⟨b,off,none⟩=some (.iface u v)->Value.okWide Tryz.prog W .any 0 u v)
 (hg:Tryz.prog.globalNamed n=some g) (ht:(Tryz.prog.globals[g]?).map (·.type)=some 45):
 ∃(a:Addr) (q:List MemPlace),W.cell? ⟨g,0,none⟩=some (.iface 269 (.pointer (some a)))/\(∃ c t,W.heap[a.block]?=some (.cells c t (0,0)))/\
  DataW.LaidVars Tryz.prog W r q/\ps=.cell g 0 :: .cell a.block a.off :: q:=by
 obtain⟨g0,t0,cs0,f0,p0,q0,hg0,ht0,hv0,hd0,hr,e0⟩:=h;obtain rfl:=Option.some.inj (hg.symm.trans hg0);obtain rfl:=Option.some.inj (ht.symm.trans ht0);subst e0;obtain⟨l0⟩:=cs0
 have ok0:∀ u v,l0=[.iface u v]->Value.okWide Tryz.prog W .any 0 u v:=fun u v e=>by
  subst e;exact(hrows g 0 (by simp[MemPlace.row])).2 u v (by simpa using World.var?_cell hg0 hv0 0)
 obtain⟨a0,s0,rfl,hc0,hs0,hz0,rfl⟩:=errorString_of_trod Tryz.underlying45 Tryz.errNamed Tryz.underlying269 Tryz.underlying290 rfl rfl Tryz.underlying9 Tryz.cellsErr Tryz.cellsStr hd0 ok0;refine⟨a0,q0,by simpa using World.var?_cell hg0 hv0 0,(hrows a0.block a0.off (by simp[MemPlace.row])).1,hr,by simp[MemPlace.row]⟩
theorem Tryz.gErrConfig:Tryz.prog.globalNamed "murmur/api.ErrConfig"=some 4:=by kernel_rfl
theorem Tryz.tErrConfig:(Tryz.prog.globals[4]?).map (·.type)=some 45:=by kernel_rfl
theorem Tryz.gErrArg:Tryz.prog.globalNamed "murmur/api.ErrArg"=some 5:=by kernel_rfl
theorem Tryz.tErrArg:(Tryz.prog.globals[5]?).map (·.type)=some 45:=by kernel_rfl
theorem Tryz.gErrFull:Tryz.prog.globalNamed "murmur/api.ErrFull"=some 1:=by kernel_rfl
theorem Tryz.tErrFull:(Tryz.prog.globals[1]?).map (·.type)=some 45:=by kernel_rfl
theorem Tryz.gErrShort:Tryz.prog.globalNamed "murmur/api.ErrShort"=some 6:=by kernel_rfl
theorem Tryz.tErrShort:(Tryz.prog.globals[6]?).map (·.type)=some 45:=by kernel_rfl
theorem Tryz.gErrType:Tryz.prog.globalNamed "murmur/api.ErrType"=some 3:=by kernel_rfl
theorem Tryz.tErrType:(Tryz.prog.globals[3]?).map (·.type)=some 45:=by kernel_rfl
theorem Tryz.gErrField:Tryz.prog.globalNamed "murmur/api.ErrField"=some 2:=by kernel_rfl
theorem Tryz.tErrField:(Tryz.prog.globals[2]?).map (·.type)=some 45:=by kernel_rfl
theorem Tryz.gErrLong:Tryz.prog.globalNamed "murmur/api.ErrLong"=some 7:=by kernel_rfl
theorem Tryz.tErrLong:(Tryz.prog.globals[7]?).map (·.type)=some 45:=by kernel_rfl
theorem Tryz.gErrClosed:Tryz.prog.globalNamed "murmur/api.ErrClosed"=some 0:=by kernel_rfl
theorem Tryz.tErrClosed:(Tryz.prog.globals[0]?).map (·.type)=some 45:=by kernel_rfl
def eightLaid:List (String×DataW Unit):=[("murmur/api.ErrConfig",Rows.laid_murmur_api_ErrConfig),("murmur/api.ErrArg",Rows.laid_murmur_api_ErrArg),("murmur/api.ErrFull",Rows.laid_murmur_api_ErrFull),("murmur/api.ErrShort",Rows.laid_murmur_api_ErrShort),("murmur/api.ErrType",Rows.laid_murmur_api_ErrType),("murmur/api.ErrField",Rows.laid_murmur_api_ErrField),("murmur/api.ErrLong",Rows.laid_murmur_api_ErrLong),("murmur/api.ErrClosed",Rows.laid_murmur_api_ErrClosed)]
def addrOf(l:List Addr)(i:Nat):Addr:=l[i]?.getD default
theorem errs_of_laid{W:World}(h:laidMetH Tryz.prog eightLaid W):∃ A,Errs A W.heap.size W:=by
 rw[MakeChecks.laidMetH_plain _ _ _ (by kernel_rfl)]at h;obtain⟨ps,hl,hnd,hrows⟩:=h;obtain⟨a0,q0,c0,b0,l0,e0⟩:=laid_head hl hrows Tryz.gErrConfig Tryz.tErrConfig;have r0:∀ b off,MemPlace.cell b off ∈ q0->(∃ c t,W.heap[b]?=some (.cells c t (0,0)))/\∀ u v,W.cell? ⟨b,off,none⟩=some (.iface u v)->Value.okWide Tryz.prog W .any 0 u v:=fun b off hm=>hrows b off (by rw[e0];exact List.mem_cons_of_mem _ (List.mem_cons_of_mem _ hm))
 obtain⟨a1,q1,c1,b1,l1,e1⟩:=laid_head l0 r0 Tryz.gErrArg Tryz.tErrArg;have r1:∀ b off,MemPlace.cell b off ∈ q1->(∃ c t,W.heap[b]?=some (.cells c t (0,0)))/\∀ u v,W.cell? ⟨b,off,none⟩=some (.iface u v)->Value.okWide Tryz.prog W .any 0 u v:=fun b off hm=>r0 b off (by rw[e1];exact List.mem_cons_of_mem _ (List.mem_cons_of_mem _ hm))
 obtain⟨a2,q2,c2,b2,l2,e2⟩:=laid_head l1 r1 Tryz.gErrFull Tryz.tErrFull;have r2:∀ b off,MemPlace.cell b off ∈ q2->(∃ c t,W.heap[b]?=some (.cells c t (0,0)))/\∀ u v,W.cell? ⟨b,off,none⟩=some (.iface u v)->Value.okWide Tryz.prog W .any 0 u v:=fun b off hm=>r1 b off (by rw[e2];exact List.mem_cons_of_mem _ (List.mem_cons_of_mem _ hm))
 obtain⟨a3,q3,c3,b3,l3,e3⟩:=laid_head l2 r2 Tryz.gErrShort Tryz.tErrShort;have r3:∀ b off,MemPlace.cell b off ∈ q3->(∃ c t,W.heap[b]?=some (.cells c t (0,0)))/\∀ u v,W.cell? ⟨b,off,none⟩=some (.iface u v)->Value.okWide Tryz.prog W .any 0 u v:=fun b off hm=>r2 b off (by rw[e3];exact List.mem_cons_of_mem _ (List.mem_cons_of_mem _ hm))
 obtain⟨a4,q4,c4,b4,l4,e4⟩:=laid_head l3 r3 Tryz.gErrType Tryz.tErrType;have r4:∀ b off,MemPlace.cell b off ∈ q4->(∃ c t,W.heap[b]?=some (.cells c t (0,0)))/\∀ u v,W.cell? ⟨b,off,none⟩=some (.iface u v)->Value.okWide Tryz.prog W .any 0 u v:=fun b off hm=>r3 b off (by rw[e4];exact List.mem_cons_of_mem _ (List.mem_cons_of_mem _ hm))
 obtain⟨a5,q5,c5,b5,l5,e5⟩:=laid_head l4 r4 Tryz.gErrField Tryz.tErrField;have r5:∀ b off,MemPlace.cell b off ∈ q5->(∃ c t,W.heap[b]?=some (.cells c t (0,0)))/\∀ u v,W.cell? ⟨b,off,none⟩=some (.iface u v)->Value.okWide Tryz.prog W .any 0 u v:=fun b off hm=>r4 b off (by rw[e5];exact List.mem_cons_of_mem _ (List.mem_cons_of_mem _ hm))
 obtain⟨a6,q6,c6,b6,l6,e6⟩:=laid_head l5 r5 Tryz.gErrLong Tryz.tErrLong;have r6:∀ b off,MemPlace.cell b off ∈ q6->(∃ c t,W.heap[b]?=some (.cells c t (0,0)))/\∀ u v,W.cell? ⟨b,off,none⟩=some (.iface u v)->Value.okWide Tryz.prog W .any 0 u v:=fun b off hm=>r5 b off (by rw[e6];exact List.mem_cons_of_mem _ (List.mem_cons_of_mem _ hm))
 obtain⟨a7,q7,c7,b7,l7,e7⟩:=laid_head l6 r6 Tryz.gErrClosed Tryz.tErrClosed;have r7:∀ b off,MemPlace.cell b off ∈ q7->(∃ c t,W.heap[b]?=some (.cells c t (0,0)))/\∀ u v,W.cell? ⟨b,off,none⟩=some (.iface u v)->Value.okWide Tryz.prog W .any 0 u v:=fun b off hm=>r6 b off (by rw[e7];exact List.mem_cons_of_mem _ (List.mem_cons_of_mem _ hm))
 obtain rfl:q7=[]:=l7;subst e7 e6 e5 e4 e3 e2 e1 e0
 have hA:([a0,a1,a2,a3,a4,a5,a6,a7].map fun a=>MemPlace.cell a.block a.off).Nodup:=by
  refine List.Nodup.sublist ?_ hnd;simp only[List.map_cons,List.map_nil]
  repeat (first | exact List.Sublist.slnil|(refine List.Sublist.cons _ (List.Sublist.cons_cons _ ?_)))
 have low:∀ {a:Addr},(∃ c t,W.heap[a.block]?=some (.cells c t (0,0)))->a.block<W.heap.size:=by
  rintro a ⟨c,t,h⟩;exact(Array.getElem?_eq_some_iff.1 h).1
 have eight:7<W.heap.size:=by
  first | exact block_lt_of_cell c7|exact block_lt_of_cell c6|exact block_lt_of_cell c5|exact block_lt_of_cell c4|exact block_lt_of_cell c3|exact block_lt_of_cell c2|exact block_lt_of_cell c1|exact block_lt_of_cell c0
 refine⟨addrOf [a0,a1,a2,a3,a4,a5,a6,a7],?_,?_,?_,?_,eight,Nat.le_refl _⟩
 ·intro g hg
  have:g=0∨g=1∨g=2∨g=3∨g=4∨g=5∨g=6∨g=7:=by omega
  rcases this with rfl|rfl|rfl|rfl|rfl|rfl|rfl|rfl
  ·exact c0
  ·exact c1
  ·exact c2
  ·exact c3
  ·exact c4
  ·exact c5
  ·exact c6
  ·exact c7
 ·intro i j hi hj e
  have hi':i<([a0,a1,a2,a3,a4,a5,a6,a7].map fun a=>MemPlace.cell a.block a.off).length:=hi;have hj':j<([a0,a1,a2,a3,a4,a5,a6,a7].map fun a=>MemPlace.cell a.block a.off).length:=hj;refine(List.getElem_inj (h₀:=hi') (h₁:=hj') hA).1 ?_;have hi2:i<[a0,a1,a2,a3,a4,a5,a6,a7].length:=hi;have hj2:j<[a0,a1,a2,a3,a4,a5,a6,a7].length:=hj;rw[List.getElem_map,List.getElem_map];unfold addrOf at e;rw[List.getElem?_eq_getElem hi2,List.getElem?_eq_getElem hj2]at e;have e':[a0,a1,a2,a3,a4,a5,a6,a7][i]=[a0,a1,a2,a3,a4,a5,a6,a7][j]:=e;rw[e']
 ·intro i hi
  have:i=0∨i=1∨i=2∨i=3∨i=4∨i=5∨i=6∨i=7:=by omega
  rcases this with rfl|rfl|rfl|rfl|rfl|rfl|rfl|rfl
  ·exact b0
  ·exact b1
  ·exact b2
  ·exact b3
  ·exact b4
  ·exact b5
  ·exact b6
  ·exact b7
 ·intro i hi
  have:i=0∨i=1∨i=2∨i=3∨i=4∨i=5∨i=6∨i=7:=by omega
  rcases this with rfl|rfl|rfl|rfl|rfl|rfl|rfl|rfl
  ·exact low b0
  ·exact low b1
  ·exact low b2
  ·exact low b3
  ·exact low b4
  ·exact low b5
  ·exact low b6
  ·exact low b7
end Go.Proofs.YtjabhnhejbhgjaaGreatDoor
