/- Package wire: behind. -/
import Derived.Test.YtjabhnhejbhgjaaGreatDoorAsWalk
import Derived.Test.YtjabhnhejbhgjaaGreatDoorMany1
namespace Go.Proofs.YtjabhnhejbhgjaaGreatDoor
open Go.RowKit

theorem ErrType.below {w w' : World} {B : Nat} (h : ErrType w) (hb : Below B w w') (hB : 8 < B) : ErrType w' := by
  unfold ErrType
  rw [hb.cell (p := ⟨8, 0, none⟩) hB]; exact h

set_option maxRecDepth 100000 in
set_option maxHeartbeats 2000000 in
theorem behind_any (pb z : Nat) (u : TypeId) (x : Value) (w : World) (hz : z ≤ 140737488355328) (hblk : w.heap[pb]? = some (.cells #[.int .i64 (z : Int), .iface u x] 168 (0, 0))) (hET : ErrType w) (hgl : 8 < w.heap.size) :
    Calls Tryz.prog 68 #[.int .i64 4, .iface 166 (.pointer (some ⟨pb, 0, none⟩))] w fun e w' => ∃ v, e = .returned v ∧ Wr w w' v ((z + 4 : Nat) : Int) (.iface u x) ∧ Below w.heap.size w w' := by
  have hpl := lt_of_block hblk
  have hb0 : Below w.heap.size w (w.alloc (.cells #[.pointer none] 166)) := (Below.refl _ _).alloc (Nat.le_refl _) _
  have hET1 : ErrType (w.alloc (.cells #[.pointer none] 166)) := hET.below hb0 hgl
  have ht0 : (w.alloc (.cells #[.pointer none] 166)).cell? ⟨w.heap.size, 0, none⟩ = some (.pointer none) := cell_of_row _ _ 0 _ _ _ (heap_alloc_new w _)
  have hf0 : (w.alloc (.cells #[.pointer none] 166)).frozen? ⟨w.heap.size, 0, none⟩ = false := frozen_of_row _ _ 0 _ _ (heap_alloc_new w _)
  have hsz : (w.alloc (.cells #[.pointer none] 166)).heap.size = w.heap.size + 1 := by simp
  have hnew := heap_alloc_new w (.cells #[.pointer none] 166)
  go_enter Tryz.func68, Tryz.ntmps68
  go_upto_region 2 with fail
  generalize w.alloc (.cells #[.pointer none] 166) = W at *
  go_wp2_with fail
  refine (as_bad ⟨pb, 0, none⟩ ⟨w.heap.size, 0, none⟩ _ W hET1 ht0 hf0 (by show w.heap.size < _; omega) (by omega)).mono ?_
  rintro e W1 ⟨rfl, hW1⟩
  obtain ⟨V, rfl, hV⟩ : ∃ V, W1 = V.setCell ⟨w.heap.size, 0, none⟩ (.pointer (some ⟨pb, 0, none⟩)) ∧ Below W.heap.size W V := ⟨_, hW1, ((((Below.refl _ W).alloc (Nat.le_refl _) _).alloc (by simp) _).alloc (by simp; omega) _).alloc (by simp; omega) _⟩
  have hVn : V.heap[w.heap.size]? = some (.cells #[.pointer none] 166 (0, 0)) := by rw [hV.block _ (by omega)]; exact hnew
  have hl1 : Below w.heap.size w (V.setCell ⟨w.heap.size, 0, none⟩ (.pointer (some ⟨pb, 0, none⟩))) := (hb0.trans (hV.mono (by omega))).setCell (p := ⟨w.heap.size, 0, none⟩) (Nat.le_refl _) _
  have hc1 : (V.setCell ⟨w.heap.size, 0, none⟩ (.pointer (some ⟨pb, 0, none⟩))).cell? ⟨w.heap.size, 0, none⟩ = some (.pointer (some ⟨pb, 0, none⟩)) := cell_of_row _ _ 0 #[.pointer (some ⟨pb, 0, none⟩)] _ _ (heap_setCell_same V w.heap.size 0 _ _ _ hVn)
  generalize V.setCell ⟨w.heap.size, 0, none⟩ (.pointer (some ⟨pb, 0, none⟩)) = W1 at *
  clear hV hVn
  have hblk1 : W1.heap[pb]? = some (.cells #[.int .i64 (z : Int), .iface u x] 168 (0, 0)) := by rw [hl1.block _ hpl]; exact hblk
  have d0 : W1.cell? ⟨pb, 0, none⟩ = some (.int .i64 (z : Int)) := cell_of_row W1 _ 0 _ _ _ hblk1
  have d1 : W1.cell? ⟨pb, 1, none⟩ = some (.iface u x) := cell_of_row W1 _ 1 _ _ _ hblk1
  have HL1 : Hid (Below w.heap.size w W1) := hl1
  clear hW1 hl1 hET1 ht0 hf0 hb0 hET hnew hblk hblk1
  have hwz : IntKind.i64.wrap (4 + (z : Int)) = ((z + 4 : Nat) : Int) := by rw [IntKind.wrap_i64]; omega
  go_upto_region 3 with fail
  go_region_with (go_at_call 41; refine (wrong_any _ _ _ _).mono ?_; rintro e w' ⟨rfl, rfl⟩)
  all_goals go_wp2_with fail
  all_goals go_ret
  all_goals
    have hs1 := HL1.out.size
    exact ⟨_, rfl, ⟨W1.heap.size, rfl, hs1, by rw [show ((z + 4 : Nat) : Int) = (z : Int) + 4 by omega]; exact heap_alloc_new W1 _⟩, (HL1.out.alloc hs1 _).drew⟩

end Go.Proofs.YtjabhnhejbhgjaaGreatDoor
