import Derived.Test.YtjabhnhejbhgjaaGreatDoorMany2
import Derived.Test.YtjabhnhejbhgjaaGreatDoorMany12
import Derived.Test.YtjabhnhejbhgjaaGreatDoorConvLaws
import Derived.Deep.QuietTactic
import Derived.BigQuiet
set_option maxRecDepth 100000
set_option maxHeartbeats 8000000
namespace Go.Proofs.YtjabhnhejbhgjaaGreatDoor
open Go.RowKit
theorem bcells{W w1:World}(hb:Below W.heap.size W w1):(∀ b o,b<W.heap.size->w1.cell? ⟨b,o,none⟩=W.cell? ⟨b,o,none⟩)/\(∀ b o,b<W.heap.size->w1.frozen? ⟨b,o,none⟩=W.frozen? ⟨b,o,none⟩):=
 ⟨fun b o h=>hb.cell (p:=⟨b,o,none⟩) h,fun b o h=>hb.frozen (p:=⟨b,o,none⟩) h⟩
theorem Tryz.assertBadNot(v:Value)(w:World):(Instr.typeAssert (.iface 269 v) 45 166 true).run Tryz.prog w=.ok (.tuple #[.pointer none,.bool false]) w:=by kernel_rfl
theorem Tryz.assertBad(a:Addr)(w:World):(Instr.typeAssert (.iface 166 (.pointer (some a))) 45 166 true).run Tryz.prog w=.ok (.tuple #[.pointer (some a),.bool true]) w:=by kernel_rfl
theorem told_nil(w:World):
 Calls Tryz.prog 56 #[.nilIface] w fun e w'=>e=.returned (.agg #[.int .i64 0,.int .i64 (-1)])/\Below w.heap.size w w':=by
 go_enter Tryz.func56,Tryz.ntmps56;go_wp2_with fail
 (try simp only[Exit.inBlock,Exit.then])
 exact bodyPost_ret (v:=.agg #[.int .i64 0,.int .i64 (-1)]) (by simp[results,Tryz.results56,go_sem]) rfl ⟨rfl,(Below.refl _ _).alloc (Nat.le_refl _) _⟩
theorem told_err(A:Nat->Addr)(B:Nat)(i:Nat)(hi:i<8)(w:World)(hE:Errs A B w):
 Calls Tryz.prog 56 #[E A (i+1)] w fun e w'=>e=.returned (.agg #[.int .i64 ((i:Int)+1),.int .i64 (-1)])/\Below w.heap.size w w':=by
 have hN:=fun w1 h1=>number_any A B i hi w1 h1
 have hT:=Tryz.assertBadNot;rw[E_succ]at hN ⊢;go_enter Tryz.func56,Tryz.ntmps56;go_wp2_with fail;refine(hN _ ?_).mono ?_
 ·exact hE.shrink _ ((Below.refl _ _).alloc (Nat.le_refl _) _)
 rintro e w' ⟨rfl,hb⟩;obtain⟨hc,hf⟩:=bcells hb;go_wp2_with fail;exact bodyPost_ret (v:=.agg #[.int .i64 ((i:Int)+1),.int .i64 (-1)]) (by simp[results,Tryz.results56,go_sem,hc]) rfl ⟨rfl,((((Below.refl _ _).alloc (Nat.le_refl _) _).trans (hb.mono (by simp))).setCell (by simp) _).setCell (by simp) _⟩
theorem RawIn.conv{w:World}{r:Raw}(h:RawIn w r)(nq:Nat):(convert 33 9 r.v).run Tryz.prog (w.drewN nq)=.ok (.string (str r.l)) (w.drewN nq):=by
 obtain⟨a,c,h1,h2⟩:=h;rw[h1];by_cases hl:0<r.l.length
 ·obtain⟨b,o,rfl,h4⟩:=h2 hl
  exact h4.convN _ c rfl nq
 ·have e:r.l=[]:=List.length_eq_zero_iff.1 (by omega)
  rw[e];show(convert 33 9 (.slice a 0 c)).run Tryz.prog (w.drewN nq)=.ok (.string ByteArray.empty) (w.drewN nq);rw[run_convert_bytes_string _ _ _ _ _ _ _ Tryz.underlying33 Tryz.underlying5 Tryz.underlying9]
  cases a with
  | none=>rfl
  | some a=>simp[Conv.bytesToString,loadCells];rfl
end Go.Proofs.YtjabhnhejbhgjaaGreatDoor
