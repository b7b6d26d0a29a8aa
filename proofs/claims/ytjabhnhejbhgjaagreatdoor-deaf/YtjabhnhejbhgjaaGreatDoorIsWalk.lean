/- errors.Is at a *api.Bad that holds one of the errors, and a target that is one of them. -/
import Derived.Test.YtjabhnhejbhgjaaGreatDoorErrs
namespace Go.Proofs.YtjabhnhejbhgjaaGreatDoor
open Go.RowKit Go.Extern.Stop Go.Stop Go.Extern

theorem Tryz.isTypeOf (v : Value) (w : World) : (Extern.ReflectliteType.typeOf #[.iface 269 v]).run Tryz.prog w = .ok (.iface 254 (.agg #[.pointer (some ⟨9, 269, none⟩)])) w := by kernel_rfl
/-- What the model has for (rtype).Comparable. -/
def cmpEntry : Array Value → Sem Value := Extern.ReflectliteType.method fun t => do Extern.Rtype.noPackHeld "Comparable" t; pure (.bool (← typeInfo t).comparable)
theorem Tryz.isComparable (w : World) : (cmpEntry #[.agg #[.pointer (some ⟨9, 269, none⟩)]]).run Tryz.prog w = .ok (.bool true) w := by kernel_rfl
theorem Tryz.isMethodComparable (n : Nat) (v : Value) (w : World) : (Go.method (n + 1) 254 v "Comparable").run Tryz.prog w = .ok (176, v) w := by kernel_rfl

theorem Tryz.noIsE (v : Value) (xT : TypeId) (w : World) : (Instr.typeAssert (.iface 269 v) xT 266 true).run Tryz.prog w = .ok (.tuple #[.nilIface, .bool false]) w := run_typeAssert_lacksB Tryz.underlying266 (by kernel_rfl) (by kernel_rfl) v xT w
theorem Tryz.noUnwrapE (v : Value) (xT : TypeId) (w : World) : (Instr.typeAssert (.iface 269 v) xT 261 true).run Tryz.prog w = .ok (.tuple #[.nilIface, .bool false]) w := run_typeAssert_lacksB Tryz.underlying261 (by kernel_rfl) (by kernel_rfl) v xT w
theorem Tryz.noUnwrapsE (v : Value) (xT : TypeId) (w : World) : (Instr.typeAssert (.iface 269 v) xT 262 true).run Tryz.prog w = .ok (.tuple #[.nilIface, .bool false]) w := run_typeAssert_lacksB Tryz.underlying262 (by kernel_rfl) (by kernel_rfl) v xT w
theorem Tryz.noIsW (v : Value) (xT : TypeId) (w : World) : (Instr.typeAssert (.iface 166 v) xT 266 true).run Tryz.prog w = .ok (.tuple #[.nilIface, .bool false]) w := run_typeAssert_lacksB Tryz.underlying266 (by kernel_rfl) (by kernel_rfl) v xT w
theorem Tryz.hasUnwrapW (v : Value) (xT : TypeId) (w : World) : (Instr.typeAssert (.iface 166 v) xT 261 true).run Tryz.prog w = .ok (.tuple #[.iface 166 v, .bool true]) w := run_typeAssert_hasB Tryz.underlying261 (by kernel_rfl) v xT w
theorem Tryz.methodUnwrap (n : Nat) (a : Addr) (w : World) : (Go.method (n + 1) 166 (.pointer (some a)) "Unwrap").run Tryz.prog w = .ok (170, .pointer (some a)) w := by kernel_rfl

set_option maxHeartbeats 1000000 in
set_option maxRecDepth 100000 in
/-- The same error. -/
theorem is_bad_same (A : Nat → Addr) (B : Nat) (i : Nat) (hi : i < 8) (pb : Nat) (w : World) (hE : Errs A B w) (h1 : w.cell? ⟨pb, 1, none⟩ = some (E A (i + 1))) :
    Calls Tryz.prog 127 #[.iface 166 (.pointer (some ⟨pb, 0, none⟩)), E A (i + 1)] w fun e w' => e = .returned (.bool true) ∧ w' = w := by
  have h8 := @run_callFunc_extern Tryz.prog 142 _ Extern.ReflectliteType.typeOf Tryz.func142 (by kernel_rfl) (by kernel_rfl) (by kernel_rfl) (by kernel_rfl)
  have h32 := @run_callFunc_extern Tryz.prog 176 _ cmpEntry Tryz.func176 (by kernel_rfl) (by kernel_rfl) (by kernel_rfl) (by kernel_rfl)
  have tT := Tryz.isTypeOf
  have cT := Tryz.isComparable
  have mR := Tryz.isMethodComparable
  have nE := Tryz.noIsE
  have uE := Tryz.noUnwrapE
  have vE := Tryz.noUnwrapsE
  have nW := Tryz.noIsW
  have uW := Tryz.hasUnwrapW
  have mU := Tryz.methodUnwrap
  have heq := hE.eql (i + 1) (i + 1) (by omega) (by omega)
  have hdec : decide (i + 1 = i + 1) = true := by simp
  rw [hdec] at heq
  clear hdec
  rw [E_succ] at h1 heq ⊢
  have hty := run_eql_iface_types (P := Tryz.prog) 166 269 (.pointer (some ⟨pb, 0, none⟩)) (.pointer (some (A i))) Tryz.underlying45 (by decide) w
  go_enter Tryz.func127, Tryz.ntmps127
  go_wp2
  refine wp_loop_rounds 2 ?_
  rw [rounds_succ]
  go_wp2
  rw [rounds_succ]
  go_wp2
  go_ret
  exact ⟨rfl, rfl⟩

set_option maxHeartbeats 1000000 in
set_option maxRecDepth 100000 in
/-- Another one. -/
theorem is_bad_other (A : Nat → Addr) (B : Nat) (i j : Nat) (hi : i < 8) (hj : j < 8) (hne : i ≠ j) (pb : Nat) (w : World) (hE : Errs A B w) (h1 : w.cell? ⟨pb, 1, none⟩ = some (E A (i + 1))) :
    Calls Tryz.prog 127 #[.iface 166 (.pointer (some ⟨pb, 0, none⟩)), E A (j + 1)] w fun e w' => e = .returned (.bool false) ∧ w' = w := by
  have h8 := @run_callFunc_extern Tryz.prog 142 _ Extern.ReflectliteType.typeOf Tryz.func142 (by kernel_rfl) (by kernel_rfl) (by kernel_rfl) (by kernel_rfl)
  have h32 := @run_callFunc_extern Tryz.prog 176 _ cmpEntry Tryz.func176 (by kernel_rfl) (by kernel_rfl) (by kernel_rfl) (by kernel_rfl)
  have tT := Tryz.isTypeOf
  have cT := Tryz.isComparable
  have mR := Tryz.isMethodComparable
  have nE := Tryz.noIsE
  have uE := Tryz.noUnwrapE
  have vE := Tryz.noUnwrapsE
  have nW := Tryz.noIsW
  have uW := Tryz.hasUnwrapW
  have mU := Tryz.methodUnwrap
  have heq := hE.eql (i + 1) (j + 1) (by omega) (by omega)
  have hdec : decide (i + 1 = j + 1) = false := by simpa using hne
  rw [hdec] at heq
  clear hdec
  clear hne
  rw [E_succ] at h1 heq ⊢
  rw [E_succ] at heq
  have hty := run_eql_iface_types (P := Tryz.prog) 166 269 (.pointer (some ⟨pb, 0, none⟩)) (.pointer (some (A j))) Tryz.underlying45 (by decide) w
  go_enter Tryz.func127, Tryz.ntmps127
  go_wp2
  refine wp_loop_rounds 2 ?_
  rw [rounds_succ]
  go_wp2
  rw [rounds_succ]
  go_wp2
  go_ret
  exact ⟨rfl, rfl⟩

end Go.Proofs.YtjabhnhejbhgjaaGreatDoor
