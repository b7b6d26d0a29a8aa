import Derived.Test.YtjabhnhejbhgjaaGreatDoorRows
import Derived.Test.YtjabhnhejbhgjaaGreatDoorMem
import Derived.Laws.BytesArg
import Derived.Laws.CopyRow
set_option maxRecDepth 100000
set_option maxHeartbeats 8000000
namespace Go.Proofs.YtjabhnhejbhgjaaGreatDoor
open Go.RowKit
def nums(l:List Gf.F):List Int:=l.map fun x=>(x.toNat:Int)
def str(l:List Gf.F):ByteArray:=strOfNums (nums l)
theorem Bs.conv{w:World}{b o:Nat}{l:List Gf.F}(h:Bs w b o l)(n c:Nat)(hn:l.length=n):
 (convert 33 9 (.slice (some ⟨b,o,none⟩) n c)).run Tryz.prog w=.ok (.string (str l)) w:=by
 refine run_convert_bytes_arg (P:=Tryz.prog) w 33 5 Tryz.underlying33 Tryz.underlying5 b o n c (nums l) (by simp[nums,hn]) (fun i hi=>?_) 9 Tryz.underlying9;rw[h i (by omega)];have:i<l.length:=by omega
 simp[nums,at_,List.getD,this]
theorem Bs.convN{w:World}{b o:Nat}{l:List Gf.F}(h:Bs w b o l)(n c:Nat)(hn:l.length=n)(nq:Nat):
 (convert 33 9 (.slice (some ⟨b,o,none⟩) n c)).run Tryz.prog (w.drewN nq)=.ok (.string (str l)) (w.drewN nq):=
 Bs.conv (fun i hi=>by rw[World.cell?_drewN];exact h i hi) n c hn
end Go.Proofs.YtjabhnhejbhgjaaGreatDoor
