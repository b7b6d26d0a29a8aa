import Derived.Test.YtjabhnhejbhgjaaGreatDoorRows
set_option maxRecDepth 100000
set_option maxHeartbeats 8000000
namespace Go.Proofs.YtjabhnhejbhgjaaGreatDoor
theorem bulk_pos{H:Type}(d:DataW H):0<Rows.uptoBulk d:=by
 cases d
 case lit l=>cases l<;>simp[Rows.uptoBulk]
 all_goals simp[Rows.uptoBulk]
theorem bulk_of_mem{H:Type}{d:DataW H}:∀ {l:List (DataW H)},d ∈ l->Rows.uptoBulk d<=Rows.uptoBulkAll l
 | [],h=>by simp at h
 | x :: r,h=>by
  rw[Rows.uptoBulkAll];rcases List.mem_cons.1 h with rfl|h
  ·omega
  ·have:=bulk_of_mem h;omega
theorem bulk_count{H:Type}:∀(l:List (DataW H)),l.length<=Rows.uptoBulkAll l
 | []=>by simp
 | x :: r=>by
  rw[Rows.uptoBulkAll];have:=bulk_pos x;have:=bulk_count r;simp;omega
theorem bulk_slice{H:Type}(elems spare:List (DataW H)):Rows.uptoBulkAll elems<=Rows.uptoBulk (.slice elems spare):=by
 rw[Rows.uptoBulk];omega
end Go.Proofs.YtjabhnhejbhgjaaGreatDoor
