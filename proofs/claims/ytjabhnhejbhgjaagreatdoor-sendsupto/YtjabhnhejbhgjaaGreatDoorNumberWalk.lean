/- number: which of package api's errors it is. -/
import Derived.Test.YtjabhnhejbhgjaaGreatDoorErrs
namespace Go.Proofs.YtjabhnhejbhgjaaGreatDoor
open Go.RowKit

/-- The list that number makes. -/
def nineCells (A : Nat → Addr) : Array Value := #[.nilIface, E A 1, E A 2, E A 3, E A 4, E A 5, E A 6, E A 7, E A 8]

theorem nineCells_at (A : Nat → Addr) (k : Nat) (hk : k < 9) : (nineCells A)[k]? = some (E A k) := by
  have : k = 0 ∨ k = 1 ∨ k = 2 ∨ k = 3 ∨ k = 4 ∨ k = 5 ∨ k = 6 ∨ k = 7 ∨ k = 8 := by omega
  rcases this with rfl | rfl | rfl | rfl | rfl | rfl | rfl | rfl | rfl <;> rfl

theorem cell_alloc_at (w : World) (cs : Array Value) (t : TypeId) (k : Nat) : (w.alloc (.cells cs t)).cell? ⟨w.heap.size, k, none⟩ = cs[k]? := by
  exact World.cell?_alloc_at cs t _ k rfl

set_option maxRecDepth 100000 in
set_option maxHeartbeats 400000 in
theorem number_any (A : Nat → Addr) (B : Nat) (i : Nat) (hi : i < 8) (w : World) (hE : Errs A B w) :
    Calls Tryz.prog 97 #[E A (i + 1)] w fun e w' => e = .returned (.int .i64 ((i : Int) + 1)) ∧ Below w.heap.size w w' := by
  have c0 : w.cell? ⟨4, 0, none⟩ = some (.iface 269 (.pointer (some (A 0)))) := hE.cell 0 (by omega)
  have c1 : w.cell? ⟨5, 0, none⟩ = some (.iface 269 (.pointer (some (A 1)))) := hE.cell 1 (by omega)
  have c2 : w.cell? ⟨1, 0, none⟩ = some (.iface 269 (.pointer (some (A 2)))) := hE.cell 2 (by omega)
  have c3 : w.cell? ⟨6, 0, none⟩ = some (.iface 269 (.pointer (some (A 3)))) := hE.cell 3 (by omega)
  have c4 : w.cell? ⟨3, 0, none⟩ = some (.iface 269 (.pointer (some (A 4)))) := hE.cell 4 (by omega)
  have c5 : w.cell? ⟨2, 0, none⟩ = some (.iface 269 (.pointer (some (A 5)))) := hE.cell 5 (by omega)
  have c6 : w.cell? ⟨7, 0, none⟩ = some (.iface 269 (.pointer (some (A 6)))) := hE.cell 6 (by omega)
  have c7 : w.cell? ⟨0, 0, none⟩ = some (.iface 269 (.pointer (some (A 7)))) := hE.cell 7 (by omega)
  go_enter Tryz.func97, Tryz.ntmps97
  go_wp2
  generalize hW : w.alloc (Obj.cells _ _) = W
  have hb : Below w.heap.size w W := by rw [← hW]; exact (Below.refl _ _).alloc (Nat.le_refl _) _
  have hc : ∀ k, k < 9 → W.cell? ⟨w.heap.size, k, none⟩ = some (E A k) := by
    intro k hk
    rw [← hW]
    exact (cell_alloc_at _ _ _ _).trans (nineCells_at A k hk)
  have hE1 := hE.shrink W hb
  clear hW c0 c1 c2 c3 c4 c5 c6 c7
  go_loop [4] (fun t => ∃ k : Nat, k ≤ i + 1 ∧ t = .int .i64 k) (fun t => 9 - (intOf t).toNat)
  case atStart => exact ⟨0, by omega, rfl⟩
  case round =>
    obtain ⟨k, hk, rfl⟩ := hrel
    have hck := hc k (by omega)
    have heq := hE1.eql (i + 1) k (by omega) (by omega)
    have hg := fun x y => eqGuard_err A 45 x y i (E A k) W
    by_cases e : i + 1 = k
    · subst e
      have ed : decide (i + 1 = i + 1) = true := by simp
      rw [ed] at heq
      clear ed
      go_wp2
      go_ret
      exact ⟨rfl, hb⟩
    · have ed : decide (i + 1 = k) = false := by simp [e]
      go_wp2
      go_round
      case rel => exact ⟨k + 1, by omega, by go_num⟩
      case measure => simp [intOf]; omega

end Go.Proofs.YtjabhnhejbhgjaaGreatDoor
