/-
  The errors of package api, as the program lays them: eight pointers, all of them others. E A k: the value of the k-th (0: nil).
-/
import Derived.Test.YtjabhnhejbhgjaaGreatDoorRows
import Derived.WalkKit
import Derived.WalkSpells
import Derived.WalkLawsBesides
import Derived.LaidEql
import Derived.Stop.Asserts
import Derived.RowKitTokens
namespace Go.Proofs.YtjabhnhejbhgjaaGreatDoor
open Go.RowKit Go.Extern.Stop Go.Stop Go.Extern

/-- Nil, or the pointer of the k-th error. -/
def E (A : Nat → Addr) : Nat → Value
  | 0 => .nilIface
  | k + 1 => .iface 269 (.pointer (some (A k)))

theorem E_zero (A : Nat → Addr) : E A 0 = .nilIface := rfl
theorem E_succ (A : Nat → Addr) (k : Nat) : E A (k + 1) = .iface 269 (.pointer (some (A k))) := rfl

/-- The variable of the k-th error. -/
def gl : Nat → Nat
  | 0 => 4
  | 1 => 5
  | 2 => 1
  | 3 => 6
  | 4 => 3
  | 5 => 2
  | 6 => 7
  | 7 => 0
  | _ => 0
theorem gl_lt (k : Nat) : gl k < 8 := by
  unfold gl; split <;> omega

/-- The world holds the eight errors. -/
structure Errs (A : Nat → Addr) (B : Nat) (w : World) : Prop where
  cell : ∀ g, g < 8 → w.cell? ⟨gl g, 0, none⟩ = some (E A (g + 1))
  apart : ∀ i j, i < 8 → j < 8 → A i = A j → i = j
  row : ∀ i, i < 8 → ∃ c t, w.heap[(A i).block]? = some (.cells c t (0, 0))
  low : ∀ i, i < 8 → (A i).block < B
  eight : 8 ≤ B
  size : B ≤ w.heap.size

theorem Errs.below {A : Nat → Addr} {B : Nat} {w w' : World} (h : Errs A B w) (hb : Below B w w') : Errs A B w' :=
  ⟨fun g hg => by rw [hb.cell (p := ⟨gl g, 0, none⟩) (by have := h.eight; have := gl_lt g; show gl g < B; omega)]; exact h.cell g hg, h.apart,
   fun i hi => by rw [hb.block _ (h.low i hi)]; exact h.row i hi, h.low, h.eight, Nat.le_trans h.size hb.size⟩

theorem Errs.shrink {A : Nat → Addr} {B : Nat} {w : World} (h : Errs A B w) (w' : World) (hb : Below w.heap.size w w') : Errs A B w' := h.below (hb.mono h.size)

theorem Tryz.errComp : (Tryz.prog.info? 269).map (·.comparable) = some true := by kernel_rfl
theorem Tryz.errSize : (Tryz.prog.info? 290).map (·.size) = some 1 := by kernel_rfl

/-- Two of them are one just where their numbers are. -/
theorem Errs.eql {A : Nat → Addr} {B : Nat} {w : World} (h : Errs A B w) (i j : Nat) (hi : i ≤ 8) (hj : j ≤ 8) :
    (binOp .eql 45 (E A i) (E A j)).run Tryz.prog w = .ok (.bool (decide (i = j))) w := by
  obtain ⟨x, hx, hcmp⟩ := Option.map_eq_some_iff.1 Tryz.errComp
  obtain ⟨y, hy, hys⟩ := Option.map_eq_some_iff.1 Tryz.errSize
  cases i with
  | zero =>
    cases j with
    | zero => rw [E_zero]; have := run_eql_nil_nil (P := Tryz.prog) w 45 (by kernel_rfl); simpa using this
    | succ j => rw [E_zero, E_succ, run_eql_iface_nil_left (P := Tryz.prog) w _ _ Tryz.underlying45]; simp
  | succ i =>
    cases j with
    | zero => rw [E_zero, E_succ]; have := run_eql_held_nil (P := Tryz.prog) w 45 269 (.pointer (some (A i))) (by kernel_rfl); simpa using this
    | succ j =>
      rw [E_succ, E_succ]
      by_cases e : i = j
      · subst e
        rw [run_eql_iface_ptr_same (P := Tryz.prog) w (A i) Tryz.underlying45 Tryz.underlying269 hx hcmp hy]; simp
      · obtain ⟨c, t, hc⟩ := h.row i (by omega)
        obtain ⟨c', t', hc'⟩ := h.row j (by omega)
        rw [run_eql_iface_ptr_other (P := Tryz.prog) w Tryz.underlying45 Tryz.underlying269 hx hcmp hy (by rw [hys]; decide) (fun q => e (h.apart i j (by omega) (by omega) q)) hc hc']
        simp [e]

theorem eqGuard_err (A : Nat → Addr) (t : TypeId) (x y : Operand) (i : Nat) (v : Value) (w : World) :
    (eqGuard .eql t x y (E A (i + 1)) v).run Tryz.prog w = .ok () w := by
  rw [E_succ]; cases v <;> rfl

end Go.Proofs.YtjabhnhejbhgjaaGreatDoor
