import Derived.Test.YtjabhnhejbhgjaaGreatDoorMany25
import Derived.Conc.LoneCalls
import Derived.Conc.LoneSelect
import Derived.KernelRfl
set_option maxRecDepth 100000
set_option maxHeartbeats 8000000
namespace Go.Proofs.YtjabhnhejbhgjaaGreatDoor
open Go.Conc Go.RowKit
theorem isClosed_no{rb d cap s r:Nat}{tm:Bool}{w:World}(c3:w.cell? ⟨rb,3,none⟩=some (.chan (some d)))(hd:w.heap[d]?=some (.chan cap #[] false s r tm)):
 Calls Tryz.prog 36 #[.pointer (some ⟨rb,0,none⟩)] w fun e w'=>e=.returned (.bool false)/\w'=w:=by
 refine calls_of_loneTo fun cs=>?_
 have e:Frame.enter Tryz.prog 36 #[.pointer (some ⟨rb,0,none⟩)] .normal=(base 36).at ⟨#[.pointer (some ⟨rb,0,none⟩),undef,undef,undef,undef,undef,undef,undef,undef,undef],[]⟩ [.code (Tryz.f36.body.getD .skip)]:=by
  simp[Frame.enter,Frame.at,Tryz.func36,base,Tryz.f36]
 rw[e];refine LoneTo.goes (n:=13) ?_;simp only[Tryz.f36,Option.getD_some]
 s_c stepG_seq
 s_reg
 s_op
 s_c stepG_region_end
 s_c stepG_seq
 s_reg
 s_op
 s_op
 s_op
 s_op
 s_c stepG_region_end
 s_c stepG_seq
 s_reg
 s_stop
 refine LoneTo.step (step_lone_select_default (c:=d) (z:=.agg #[]) (stepG_comm (cases:=#[rcase d (.agg #[])]) (blocking:=false) (shape:=.select) (w':=w) rfl rfl (by decide) (by simp[go_sem,execOp,rcase,Act.eval])) hd) ?_;rw[Frame.finish_at]
 walk_nrm
 refine LoneTo.goes (n:=11) ?_
 s_op
 s_op
 s_c stepG_region_end
 s_c stepG_block
 s_cond false
 s_c stepG_seq
 s_reg
 s_op
 s_c stepG_region_end
 s_c stepG_ret'
 s_stop
 exact LoneTo.done ⟨.returned (.bool false),_,rfl,⟨rfl,rfl⟩,rfl,rfl,rfl,rfl,_,Tryz.func36,by simp[results,Tryz.f36,Frame.at]⟩
theorem isClosed_yes{rb d cap s r:Nat}{tm:Bool}{w:World}(c3:w.cell? ⟨rb,3,none⟩=some (.chan (some d)))(hd:w.heap[d]?=some (.chan cap #[] true s r tm)):
 Calls Tryz.prog 36 #[.pointer (some ⟨rb,0,none⟩)] w fun e w'=>e=.returned (.bool true)/\w'=w:=by
 refine calls_of_loneTo fun cs=>?_
 have e:Frame.enter Tryz.prog 36 #[.pointer (some ⟨rb,0,none⟩)] .normal=(base 36).at ⟨#[.pointer (some ⟨rb,0,none⟩),undef,undef,undef,undef,undef,undef,undef,undef,undef],[]⟩ [.code (Tryz.f36.body.getD .skip)]:=by
  simp[Frame.enter,Frame.at,Tryz.func36,base,Tryz.f36]
 rw[e];refine LoneTo.goes (n:=13) ?_;simp only[Tryz.f36,Option.getD_some]
 s_c stepG_seq
 s_reg
 s_op
 s_c stepG_region_end
 s_c stepG_seq
 s_reg
 s_op
 s_op
 s_op
 s_op
 s_c stepG_region_end
 s_c stepG_seq
 s_reg
 s_stop
 refine LoneTo.step (step_lone_select_recv_shut (c:=d) (z:=.agg #[]) (stepG_comm (cases:=#[rcase d (.agg #[])]) (blocking:=false) (shape:=.select) (w':=w) rfl rfl (by decide) (by simp[go_sem,execOp,rcase,Act.eval])) hd) ?_;rw[Frame.finish_at]
 walk_nrm
 refine LoneTo.goes (n:=11) ?_
 s_op
 s_op
 s_c stepG_region_end
 s_c stepG_block
 s_cond true
 s_c stepG_seq
 s_reg
 s_op
 s_c stepG_region_end
 s_c stepG_ret'
 s_stop
 exact LoneTo.done ⟨.returned (.bool true),_,rfl,⟨rfl,rfl⟩,rfl,rfl,rfl,rfl,_,Tryz.func36,by simp[results,Tryz.f36,Frame.at]⟩
end Go.Proofs.YtjabhnhejbhgjaaGreatDoor
