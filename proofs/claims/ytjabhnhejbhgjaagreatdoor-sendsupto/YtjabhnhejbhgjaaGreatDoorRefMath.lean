/- The document's product: multiplied out, then made less. -/
import Derived.Test.YtjabhnhejbhgjaaGreatDoorGf
namespace Go.Proofs.YtjabhnhejbhgjaaGreatDoor.Gf

/-- Multiplied out: the first k bits of b. -/
def clUp (a b : Nat) : Nat → Nat
  | 0 => 0
  | k + 1 => if b.testBit k then clUp a b k ^^^ (a <<< k) else clUp a b k

/-- Made less: k steps, from bit 14 down. -/
def redUp (p : Nat) : Nat → Nat
  | 0 => p
  | k + 1 => if (redUp p k).testBit (14 - k) then redUp p k ^^^ (285 <<< (14 - k - 8)) else redUp p k

def refMul (a b : F) : Nat := redUp (clUp a.toNat b.toNat 8) 7

theorem nxor4 (a b c d : Nat) : (a ^^^ b) ^^^ (c ^^^ d) = (a ^^^ c) ^^^ (b ^^^ d) := by
  rw [Nat.xor_assoc, Nat.xor_assoc]; congr 1
  rw [← Nat.xor_assoc, ← Nat.xor_assoc, Nat.xor_comm b c]

theorem clUp_xor (a b c k : Nat) : clUp a (b ^^^ c) k = clUp a b k ^^^ clUp a c k := by
  induction k with
  | zero => simp [clUp]
  | succ k ih =>
    simp only [clUp, Nat.testBit_xor, ih]
    cases b.testBit k <;> cases c.testBit k <;> simp
    · rw [Nat.xor_assoc]
    · rw [Nat.xor_assoc, Nat.xor_assoc, Nat.xor_comm (clUp a c k)]
    · rw [nxor4]; simp

theorem redUp_xor (p q k : Nat) : redUp (p ^^^ q) k = redUp p k ^^^ redUp q k := by
  induction k with
  | zero => rfl
  | succ k ih =>
    simp only [redUp, ih, Nat.testBit_xor]
    cases (redUp p k).testBit (14 - k) <;> cases (redUp q k).testBit (14 - k) <;> simp
    · rw [Nat.xor_assoc]
    · rw [Nat.xor_assoc, Nat.xor_assoc, Nat.xor_comm (redUp q k)]
    · rw [nxor4]; simp

theorem refMul_xor (a b c : F) : refMul a (b ^^^ c) = refMul a b ^^^ refMul a c := by
  unfold refMul; rw [BitVec.toNat_xor, clUp_xor, redUp_xor]

def bitIf (b : F) (k : Nat) : F := if b.getLsbD k then 1#8 <<< k else 0

theorem bits_eq : ∀ b : F, b = bitIf b 0 ^^^ (bitIf b 1 ^^^ (bitIf b 2 ^^^ (bitIf b 3 ^^^ (bitIf b 4 ^^^ (bitIf b 5 ^^^ (bitIf b 6 ^^^ bitIf b 7)))))) := by decide +kernel

theorem span (P : F → Prop) (h0 : P 0) (hx : ∀ x y, P x → P y → P (x ^^^ y)) (hb : ∀ k, k < 8 → P (1#8 <<< k)) (b : F) : P b := by
  have hi : ∀ k, k < 8 → P (bitIf b k) := by
    intro k hk
    unfold bitIf
    split
    · exact hb k hk
    · exact h0
  rw [bits_eq b]
  exact hx _ _ (hi 0 (by omega)) (hx _ _ (hi 1 (by omega)) (hx _ _ (hi 2 (by omega)) (hx _ _ (hi 3 (by omega)) (hx _ _ (hi 4 (by omega)) (hx _ _ (hi 5 (by omega)) (hx _ _ (hi 6 (by omega)) (hi 7 (by omega))))))))

theorem refMul_zero : ∀ a : F, refMul a 0 = (mul a 0).toNat := by decide +kernel
theorem refMul_base : ∀ k : Fin 8, ∀ a : F, refMul a (1#8 <<< k.val) = (mul a (1#8 <<< k.val)).toNat := by decide +kernel

theorem refMul_eq (a b : F) : refMul a b = (mul a b).toNat :=
  span (fun b => ∀ a, refMul a b = (mul a b).toNat) refMul_zero (fun x y hx hy a => by rw [refMul_xor, hx a, hy a, mul_xor, BitVec.toNat_xor]) (fun k hk a => refMul_base ⟨k, hk⟩ a) b a

theorem clUp_lt (a b k : Nat) (ha : a < 256) (hk : k ≤ 8) : clUp a b k < 32768 := by
  induction k with
  | zero => simp [clUp]
  | succ k ih =>
    have ih' := ih (by omega)
    simp only [clUp]
    split
    · refine Nat.xor_lt_two_pow (n := 15) ih' ?_
      rw [Nat.shiftLeft_eq]
      have : 2 ^ k ≤ 2 ^ 7 := Nat.pow_le_pow_right (by omega) (by omega)
      exact Nat.lt_of_le_of_lt (Nat.mul_le_mul (show a ≤ 255 by omega) this) (by decide)
    · exact ih'

theorem redUp_lt (p k : Nat) (hp : p < 32768) (hk : k ≤ 7) : redUp p k < 32768 := by
  induction k with
  | zero => exact hp
  | succ k ih =>
    have ih' := ih (by omega)
    simp only [redUp]
    split
    · refine Nat.xor_lt_two_pow (n := 15) ih' ?_
      rw [Nat.shiftLeft_eq]
      have : 2 ^ (14 - k - 8) ≤ 2 ^ 6 := Nat.pow_le_pow_right (by omega) (by omega)
      exact Nat.lt_of_le_of_lt (Nat.mul_le_mul (Nat.le_refl 285) this) (by decide)
    · exact ih'

/-- The number with which the product with a is 1, by search from k on. -/
def overB (a : F) (k : Nat) : Bool := mul a (BitVec.ofNat 8 k) == 1

theorem over_found (a : F) (k : Nat) (h : overB a k = true) : a ≠ 0 ∧ BitVec.ofNat 8 k = inv a := by
  have h1 : mul a (BitVec.ofNat 8 k) = 1 := by simpa [overB] using h
  have ha : a ≠ 0 := by
    intro e; rw [e, zero_mul] at h1; exact absurd h1 (by decide)
  exact ⟨ha, mul_left_cancel a _ _ ha (by rw [h1, mul_inv a ha])⟩

theorem over_all (a : F) (ha : a ≠ 0) : overB a (inv a).toNat = true := by
  unfold overB; rw [BitVec.ofNat_toNat, BitVec.setWidth_eq, mul_inv a ha]; rfl

theorem inv_pos (a : F) (ha : a ≠ 0) : 0 < (inv a).toNat := by
  rcases Nat.eq_zero_or_pos (inv a).toNat with h | h
  · exfalso
    have : inv a = 0 := BitVec.eq_of_toNat_eq h
    have h1 := mul_inv a ha
    rw [this, mul_zero] at h1
    exact absurd h1 (by decide)
  · exact h

/-- x to the power n. -/
def pow (x : F) : Nat → F
  | 0 => 1
  | n + 1 => mul (pow x n) x

end Go.Proofs.YtjabhnhejbhgjaaGreatDoor.Gf
