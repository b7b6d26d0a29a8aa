import Derived.Test.YtjabhnhejbhgjaaGreatDoorErrsLaid
import Derived.Test.YtjabhnhejbhgjaaGreatDoorAsWalk
import Derived.Test.YtjabhnhejbhgjaaGreatDoorMem
import Derived.ProofKit
import Derived.OpenShut
import Derived.LaidHandle
set_option maxRecDepth 100000
set_option maxHeartbeats 8000000
namespace Go.Proofs.YtjabhnhejbhgjaaGreatDoor
open Go.ChangeShapes Go.WideShapes Go.ChangeAt Go.RowKit
def nineLaid:List (String×DataW Unit):=("errors.errorType",Rows.laid_errors_errorType) :: eightLaid
theorem Tryz.gErrorType:Tryz.prog.globalNamed "errors.errorType"=some 8:=by kernel_rfl
theorem Tryz.rtypeRow:(Tryz.prog.cutTypes.find? (·.1 == "internal/reflectlite.rtype")).map (·.2)=some 254:=by kernel_rfl
theorem Tryz.oneError:((List.range 302).filter fun t=>Tryz.prog.rowNamed t [101,114,114,111,114])=[45]:=by kernel_rfl
theorem Tryz.typesSize:Tryz.prog.types.size=302:=by kernel_rfl
theorem nine_of_laid{W:World}(h:laidMetH Tryz.prog nineLaid W):(∃ A,Errs A W.heap.size W)/\ErrType W/\8<W.heap.size:=by
 have h':laidMet Tryz.prog eightLaid W/\handlesMet Tryz.prog [("errors.errorType",Rows.laid_errors_errorType)] W:=h;have hE:=errs_of_laid (W:=W) (by rw[MakeChecks.laidMetH_plain _ _ _ (by kernel_rfl)];exact h'.1);obtain⟨name,u,ty,e1,e2,e3,e4,e5⟩:=h'.2 _ (List.mem_singleton.2 rfl);have en:name=[101,114,114,111,114]:=(Option.some.inj e1).symm;subst en;obtain rfl:=Option.some.inj (Tryz.rtypeRow.symm.trans e2);have hm:ty ∈(List.range 302).filter fun t=>Tryz.prog.rowNamed t [101,114,114,111,114]:=List.mem_filter.2 ⟨List.mem_range.2 (by rw[<- Tryz.typesSize];exact e3),e4⟩
 rw[Tryz.oneError]at hm;obtain rfl:=List.mem_singleton.1 hm;have hh:typeHandle Tryz.prog 45=.pointer (some ⟨9,45,none⟩):=by kernel_rfl
 rw[hh]at e5
 have hc:ErrType W:=by
  unfold ErrType;simpa using World.var?_cell Tryz.gErrorType e5 0
 exact⟨hE,hc,lt_of_cell (a:=⟨8,0,none⟩) hc⟩
end Go.Proofs.YtjabhnhejbhgjaaGreatDoor
