/- errors.Is at a *api.Bad that holds one of the errors, and a target that is one of them. -/
import Derived.Test.YtjabhnhejbhgjaaDoorErrs
namespace Go.Proofs.YtjabhnhejbhgjaaDoor
open Go.RowKit Go.Extern.Stop Go.Stop Go.Extern

theorem Tryd.isTypeOf (v : Value) (w : World) : (Extern.ReflectliteType.typeOf #[.iface 164 v]).run Tryd.prog w = .ok (.iface 92 (.agg #[.pointer (some ⟨9, 164, none⟩)])) w := by kernel_rfl
/-- What the model has for (rtype).Comparable. -/
def cmpEntry : Array Value → Sem Value := Extern.ReflectliteType.method fun t => do Extern.Rtype.noPackHeld "Comparable" t; pure (.bool (← typeInfo t).comparable)
theorem Tryd.isComparable (w : World) : (cmpEntry #[.agg #[.pointer (some ⟨9, 164, none⟩)]]).run Tryd.prog w = .ok (.bool true) w := by kernel_rfl
theorem Tryd.isMethodComparable (n : Nat) (v : Value) (w : World) : (Go.method (n + 1) 92 v "Comparable").run Tryd.prog w = .ok (121, v) w := by kernel_rfl

theorem Tryd.noIsE (v : Value) (xT : TypeId) (w : World) : (Instr.typeAssert (.iface 164 v) xT 94 true).run Tryd.prog w = .ok (.tuple #[.nilIface, .bool false]) w := run_typeAssert_lacksB Tryd.underlying94 (by kernel_rfl) (by kernel_rfl) v xT w
theorem Tryd.noUnwrapE (v : Value) (xT : TypeId) (w : World) : (Instr.typeAssert (.iface 164 v) xT 97 true).run Tryd.prog w = .ok (.tuple #[.nilIface, .bool false]) w := run_typeAssert_lacksB Tryd.underlying97 (by kernel_rfl) (by kernel_rfl) v xT w
theorem Tryd.noUnwrapsE (v : Value) (xT : TypeId) (w : World) : (Instr.typeAssert (.iface 164 v) xT 99 true).run Tryd.prog w = .ok (.tuple #[.nilIface, .bool false]) w := run_typeAssert_lacksB Tryd.underlying99 (by kernel_rfl) (by kernel_rfl) v xT w
theorem Tryd.noIsW (v : Value) (xT : TypeId) (w : World) : (Instr.typeAssert (.iface 26 v) xT 94 true).run Tryd.prog w = .ok (.tuple #[.nilIface, .bool false]) w := run_typeAssert_lacksB Tryd.underlying94 (by kernel_rfl) (by kernel_rfl) v xT w
theorem Tryd.hasUnwrapW (v : Value) (xT : TypeId) (w : World) : (Instr.typeAssert (.iface 26 v) xT 97 true).run Tryd.prog w = .ok (.tuple #[.iface 26 v, .bool true]) w := run_typeAssert_hasB Tryd.underlying97 (by kernel_rfl) v xT w
theorem Tryd.methodUnwrap (n : Nat) (a : Addr) (w : World) : (Go.method (n + 1) 26 (.pointer (some a)) "Unwrap").run Tryd.prog w = .ok (118, .pointer (some a)) w := by kernel_rfl

set_option maxHeartbeats 1000000 in
set_option maxRecDepth 100000 in
/-- The same error. -/
theorem is_bad_same (A : Nat → Addr) (B : Nat) (i : Nat) (hi : i < 8) (pb : Nat) (w : World) (hE : Errs A B w) (h1 : w.cell? ⟨pb, 1, none⟩ = some (E A (i + 1))) :
    Calls Tryd.prog 8 #[.iface 26 (.pointer (some ⟨pb, 0, none⟩)), E A (i + 1)] w fun e w' => e = .returned (.bool true) ∧ w' = w := by
  have h8 := @run_callFunc_extern Tryd.prog 19 _ Extern.ReflectliteType.typeOf Tryd.func19 (by kernel_rfl) (by kernel_rfl) (by kernel_rfl) (by kernel_rfl)
  have h32 := @run_callFunc_extern Tryd.prog 121 _ cmpEntry Tryd.func121 (by kernel_rfl) (by kernel_rfl) (by kernel_rfl) (by kernel_rfl)
  have tT := Tryd.isTypeOf
  have cT := Tryd.isComparable
  have mR := Tryd.isMethodComparable
  have nE := Tryd.noIsE
  have uE := Tryd.noUnwrapE
  have vE := Tryd.noUnwrapsE
  have nW := Tryd.noIsW
  have uW := Tryd.hasUnwrapW
  have mU := Tryd.methodUnwrap
  have heq := hE.eql (i + 1) (i + 1) (by omega) (by omega)
  have hdec : decide (i + 1 = i + 1) = true := by simp
  rw [hdec] at heq
  clear hdec
  rw [E_succ] at h1 heq ⊢
  have hty := run_eql_iface_types (P := Tryd.prog) 26 164 (.pointer (some ⟨pb, 0, none⟩)) (.pointer (some (A i))) Tryd.underlying23 (by decide) w
  go_enter Tryd.func8, Tryd.ntmps8
  go_wp2
  refine wp_loop_rounds 2 ?_
  rw [rounds_succ]
  go_wp2
  rw [rounds_succ]
  go_wp2
  go_ret
  exact ⟨rfl, rfl⟩

set_option maxHeartbeats 1000000 in
set_option maxRecDepth 100000 in
/-- Another one. -/
theorem is_bad_other (A : Nat → Addr) (B : Nat) (i j : Nat) (hi : i < 8) (hj : j < 8) (hne : i ≠ j) (pb : Nat) (w : World) (hE : Errs A B w) (h1 : w.cell? ⟨pb, 1, none⟩ = some (E A (i + 1))) :
    Calls Tryd.prog 8 #[.iface 26 (.pointer (some ⟨pb, 0, none⟩)), E A (j + 1)] w fun e w' => e = .returned (.bool false) ∧ w' = w := by
  have h8 := @run_callFunc_extern Tryd.prog 19 _ Extern.ReflectliteType.typeOf Tryd.func19 (by kernel_rfl) (by kernel_rfl) (by kernel_rfl) (by kernel_rfl)
  have h32 := @run_callFunc_extern Tryd.prog 121 _ cmpEntry Tryd.func121 (by kernel_rfl) (by kernel_rfl) (by kernel_rfl) (by kernel_rfl)
  have tT := Tryd.isTypeOf
  have cT := Tryd.isComparable
  have mR := Tryd.isMethodComparable
  have nE := Tryd.noIsE
  have uE := Tryd.noUnwrapE
  have vE := Tryd.noUnwrapsE
  have nW := Tryd.noIsW
  have uW := Tryd.hasUnwrapW
  have mU := Tryd.methodUnwrap
  have heq := hE.eql (i + 1) (j + 1) (by omega) (by omega)
  have hdec : decide (i + 1 = j + 1) = false := by simpa using hne
  rw [hdec] at heq
  clear hdec
  clear hne
  rw [E_succ] at h1 heq ⊢
  rw [E_succ] at heq
  have hty := run_eql_iface_types (P := Tryd.prog) 26 164 (.pointer (some ⟨pb, 0, none⟩)) (.pointer (some (A j))) Tryd.underlying23 (by decide) w
  go_enter Tryd.func8, Tryd.ntmps8
  go_wp2
  refine wp_loop_rounds 2 ?_
  rw [rounds_succ]
  go_wp2
  rw [rounds_succ]
  go_wp2
  go_ret
  exact ⟨rfl, rfl⟩

end Go.Proofs.YtjabhnhejbhgjaaDoor
